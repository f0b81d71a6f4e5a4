import Derived.Test.YtndkhgakfodldaaGreatDoorTd
import Derived.BigQuiet
namespace Go.Proofs.YtndkhgakfodldaaGreatDoor
set_option maxRecDepth 100000
set_option maxHeartbeats 800000
open Go.RowKit
structure Keeps (R:Nat) (w w':World):Prop where
 os:w'.os=w.os
 tape:w'.tape=w.tape
 output:w'.output=w.output
 size:w.heap.size<=w'.heap.size
 block:∀ k,k<w.heap.size->k≠R->w'.heap[k]? = w.heap[k]?
theorem Keeps.refl (R:Nat) (w:World):Keeps R w w:=⟨rfl,rfl,rfl,vaa _,fun _ _ _=>rfl⟩
theorem Keeps.trans {R:Nat} {a b c:World} (h:Keeps R a b) (k:Keeps R b c):Keeps R a c:=
 ⟨k.os.trans h.os,k.tape.trans h.tape,k.output.trans h.output,vbd h.size k.size,fun i h1 h2=>(k.block i (vah h1 h.size) h2).trans (h.block i h1 h2)⟩
theorem Keeps.of_below {w w':World} (h:qb w w') (R:Nat):Keeps R w w':=⟨h.os,h.tape,h.output,h.size,fun k h1 _=>h.block k h1⟩
theorem Keeps.setCell (R:Nat) (w:World) (j:Nat) (u:Value):Keeps R w (w.setCell (qa R j) u):=
 ⟨rfl,rfl,rfl,by rw [vaq];exact vaa _,fun k _ h2=>Below.heap_setCell w (qa R j) u k h2⟩
theorem Keeps.stays {R lo:Nat} {w w':World} (h:Keeps R w w') (hR:R<lo):zfl lo w w':=⟨h.size,fun k h1 h2=>h.block k h2 (by omega)⟩
theorem Keeps.cell {R:Nat} {w w':World} (h:Keeps R w w') {b off:Nat} (h1:b<w.heap.size) (h2:b≠R):w'.cell? (qa b off)=w.cell? (qa b off):=
 ves (w:=w) (h.block b h1 h2)
theorem Keeps.later {R:Nat} {w w1 w2:World} (h:Keeps R w w1) (hb:qb w1 w2):Keeps R w w2:=h.trans (Keeps.of_below hb R)
theorem Keeps.alloc {R:Nat} {w w1:World} (h:Keeps R w w1) (o:Obj):Keeps R w (w1.alloc o):=h.later ((Below.refl _ _).alloc (vaa _) o)
theorem Keeps.own {R:Nat} {w w1:World} (h:Keeps R w w1) (j:Nat) (u:Value):Keeps R w (w1.setCell (qa R j) u):=h.trans (Keeps.setCell R w1 j u)
theorem Keeps.set {R:Nat} {w w1:World} (h:Keeps R w w1) {p:Addr} (hp:w.heap.size<=p.block) (u:Value):Keeps R w (w1.setCell p u):=
 ⟨h.os,h.tape,h.output,by rw [vaq];exact h.size,fun k h1 h2=>(Below.heap_setCell w1 p u k (by omega)).trans (h.block k h1 h2)⟩
structure Rd (R:Nat) (a:OA) (cap:Nat) (ts:List Tk) (w:World) (l:List Tk):Prop where
 idx:∃ k:Nat,k<=ts.length/\l=ts.drop k/\w.heap[R]? = some (.cells #[.slice a ts.length cap,qi k] 239 (0,0))
 toks:zcm w a ts
 ne:ts=[]\/∀ b off,a=some (qa b off)->b≠R
 len:ts.length<=4096
theorem zcm.keeps {R:Nat} {w w':World} {a:OA} {ts:List Tk} (h:zcm w a ts) (hk:Keeps R w w') (Aj:ts=[]\/∀ b off,a=some (qa b off)->b≠R):zcm w' a ts:=by
 rcases Aj with h0 | Aj
 . exact Or.inl h0
 rcases h with h | ⟨b,off,ha,h⟩
 . exact Or.inl h
 . have hb:=Aj b off ha
   have hl:=h.lt;exact Or.inr ⟨b,off,ha,vah hl hk.size,fun i hi=>(hk.cell hl hb).trans (h.kind i hi),fun i hi=>(hk.cell hl hb).trans (h.num i hi),fun i hi=>(hk.cell hl hb).trans (h.text i hi),h.fits⟩
section
variable {R cap:Nat} {a:OA} {ts l:List Tk} {w w':World}
theorem Rd.lt (h:Rd R a cap ts w l):R<w.heap.size:=by obtain ⟨k,_,_,hb⟩:=h.idx;exact lt_of_heap hb
theorem Rd.later (h:Rd R a cap ts w l) (hb:qb w w'):Rd R a cap ts w' l:=by
 obtain ⟨k,h1,h2,h3⟩:=h.idx;exact ⟨⟨k,h1,h2,(hb.block R (lt_of_heap h3)).trans h3⟩,h.toks.later hb,h.ne,h.len⟩
theorem Rd.at_ {l':List Tk} {j:Nat} (h:Rd R a cap ts w l) (hk:Keeps R w w') (hj:j<=ts.length) (hl:l'=ts.drop j) (hb:w'.heap[R]? = some (.cells #[.slice a ts.length cap,qi j] 239 (0,0))):Rd R a cap ts w' l':=
 ⟨⟨j,hj,hl,hb⟩,h.toks.keeps hk h.ne,h.ne,h.len⟩
theorem Rd.still (h:Rd R a cap ts w l) (hk:Keeps R w w') (hb:w'.heap[R]? = w.heap[R]?):Rd R a cap ts w' l:=by
 obtain ⟨k,h1,h2,h3⟩:=h.idx;exact ⟨⟨k,h1,h2,hb.trans h3⟩,h.toks.keeps hk h.ne,h.ne,h.len⟩
theorem Rd.set (h:Rd R a cap ts w l) {p:Addr} (hp:p.block≠R) (ht:∀ b off,a=some (qa b off)->p.block≠b) (u:Value):Rd R a cap ts (w.setCell p u) l:=by
 obtain ⟨k,h1,h2,h3⟩:=h.idx;refine ⟨⟨k,h1,h2,(Below.heap_setCell w p u R (veo hp)).trans h3⟩,?_,h.ne,h.len⟩
 rcases h.toks with h4 | ⟨b,off,ha,h4⟩
 . exact Or.inl h4
 . have e:∀ j,(w.setCell p u).cell? (qa b j)=w.cell? (qa b j):=fun j=>ves (w:=w) (Below.heap_setCell w p u b (veo (ht b off ha)))
   exact Or.inr ⟨b,off,ha,by rw [vaq];exact h4.lt,fun i hi=>(e _).trans (h4.kind i hi),fun i hi=>(e _).trans (h4.num i hi),fun i hi=>(e _).trans (h4.text i hi),h4.fits⟩
theorem Rd.alloc (h:Rd R a cap ts w l) (o:Obj):Rd R a cap ts (w.alloc o) l:=h.later ((Below.refl _ _).alloc (vaa _) o)
theorem Rd.setAbove {w0:World} {l0:List Tk} (h:Rd R a cap ts w l) (h0:Rd R a cap ts w0 l0) {p:Addr} (hp:w0.heap.size<=p.block) (u:Value):Rd R a cap ts (w.setCell p u) l:=by
 refine ⟨?_,?_,h.ne,h.len⟩
 . obtain ⟨k,h1,h2,h3⟩:=h.idx
   exact ⟨k,h1,h2,(Below.heap_setCell w p u R (by have:=lt_of_heap h0.idx.choose_spec.2.2;omega)).trans h3⟩
 rcases h0.toks with h4 | ⟨b,off,ha,h4⟩
 . exact Or.inl h4
 . rcases h.toks with h5 | ⟨b',BG,Cd,h5⟩
   . exact Or.inl h5
   . have eq:b'=b:=by rw [ha] at Cd;injection Cd with Cd;injection Cd with e1 e2;exact e1.symm
     subst eq
     have e:∀ j,(w.setCell p u).cell? (qa b' j)=w.cell? (qa b' j):=fun j=>ves (w:=w) (Below.heap_setCell w p u b' (by have:=h4.lt;omega))
     exact Or.inr ⟨b',BG,Cd,by rw [vaq];exact h5.lt,fun i hi=>(e _).trans (h5.kind i hi),fun i hi=>(e _).trans (h5.num i hi),fun i hi=>(e _).trans (h5.text i hi),h5.fits⟩
theorem Rd.adv {k:Nat} (h:Rd R a cap ts w (ts.drop k)) (hk:k<ts.length) (hb:w.heap[R]? = some (.cells #[.slice a ts.length cap,qi k] 239 (0,0))) :
 Rd R a cap ts (w.setCell (qa R 1) (qi ((k:Int)+1))) (ts.drop (k+1)):=by
 refine ⟨⟨k+1,by omega,rfl,?_⟩,h.toks.keeps (Keeps.setCell R w 1 _) h.ne,h.ne,h.len⟩;simp [World.setCell,Array.getElem?_modify,hb]
end
theorem zpm (R cap n:Nat) (a:OA) (ts l:List Tk) (w:World) (hn:n<=1) (h:Rd R a cap ts w l) :
 qc 252 #[pq R 0,qi n] w fun e w'=>e = .returned (Tk.val (l.getD n noTk))/\qb w w':=by
 obtain ⟨k,hk,rfl,hb⟩:=h.idx
 have CB:w.cell? (qa R 0)=some (.slice a ts.length cap):=by rw [vep hb];rfl
 have Bg:w.cell? (qa R 1)=some (qi k):=by rw [vep hb];rfl
 have A0:=h.lt;have Ai:=h.len
 by_cases Ft:k+n<ts.length
 . have HV:Hid (Tk.val ((ts.drop k).getD n noTk) = .agg #[qi ts[k+n].kind,qi ts[k+n].n,.string ts[k+n].text]):=by
    show Tk.val _=_;rw [vav,vac (by rw [vcl];omega),Option.getD_some,vea]
    rfl
   obtain ⟨b,off,rfl,hT⟩:=h.toks.place Ft;have Fw:=hT.kind (k+n) Ft;have C8:=hT.num (k+n) Ft;have Df:=hT.text (k+n) Ft;have Au:=hT.lt;clear hT h hb;go_enter Tryz.func252,Tryz.ntmps252;go_wp2_with fail
   go_quiet ((fail))
   go_wp2_with fail
   go_region
   go_wp2_with fail;refine bodyPost_ret (v:=.agg #[qi ts[k+n].kind,qi ts[k+n].n,.string ts[k+n].text]) (by simp [results,Tryz.results252,go_sem]) rfl ⟨by rw [HV.out],?_⟩;exact (((below_drewN ((Below.refl _ _).alloc (vaa _) _) _).setCell (p:=(qa w.heap.size 0)) (vaa _) _).setCell (p:=(qa w.heap.size 1)) (vaa _) _).setCell (p:=(qa w.heap.size 2)) (vaa _) _
 . have HV:Hid (Tk.val ((ts.drop k).getD n noTk) = .agg #[qi 0,qi 0,.string ⟨#[]⟩]):=by
    show Tk.val _=_;rw [vav,vbv (by rw [vcl];omega)]
    rfl
   clear h hb;go_enter Tryz.func252,Tryz.ntmps252;go_wp2_with fail
   go_quiet ((fail))
   go_wp2_with fail;refine bodyPost_ret (v:=.agg #[qi 0,qi 0,.string ⟨#[]⟩]) (by simp [results,Tryz.results252,go_sem]) rfl ⟨by rw [HV.out],?_⟩;exact (((below_drewN ((Below.refl _ _).alloc (vaa _) _) _).setCell (p:=(qa w.heap.size 0)) (vaa _) _).setCell (p:=(qa w.heap.size 1)) (vaa _) _).setCell (p:=(qa w.heap.size 2)) (vaa _) _
set_option maxHeartbeats 1600000
theorem z3s {ts:List Tk} {k:Nat} (h:k<ts.length):hd (ts.drop k)=ts[k]:=by
 unfold hd;rw [vav,vac (by rw [vcl];omega),Option.getD_some,vea]
 rfl
theorem z2i {ts:List Tk} {k:Nat} (h:¬ k<ts.length):hd (ts.drop k)=noTk:=by
 rw [vct (by omega)];rfl
theorem z7p {ts:List Tk} {k:Nat} {t:ByteArray} (ht:0<t.size) (h:skB (ts.drop k) t=true):k<ts.length:=by
 by_cases hk:k<ts.length
 . exact hk
 . unfold skB at h
   rw [z2i hk,vbb,vbb] at h
   have:t.data.toList=[]:=by simpa [noTk] using (beq_iff_eq.1 h).symm
   have:=Lx.zbe t;simp_all
theorem zpn (R cap:Nat) (a:OA) (ts l:List Tk) (w:World) (h:Rd R a cap ts w l) :
 qc 252 #[pq R 0,qi 0] w fun e w'=>e = .returned (.agg #[qi (hd l).kind,qi (hd l).n,.string (hd l).text])/\qb w w':=
 zpm R cap 0 a ts l w (by omega) h
theorem z2j (k n:Int) (t:ByteArray):∀ w:World,(Instr.field 184 (.agg #[qi k,qi n,.string t]) 0).run Tryz.prog w = .ok (qi k) w:=fun _=>by kernel_rfl
theorem zs9 (k n:Int) (t:ByteArray):∀ w:World,(Instr.field 184 (.agg #[qi k,qi n,.string t]) 2).run Tryz.prog w = .ok (.string t) w:=fun _=>by kernel_rfl
theorem zbl (R cap:Nat) (a:OA) (ts l:List Tk) (t:ByteArray) (w:World) (ht:0<t.size) (h:Rd R a cap ts w l) (hs:skB l t=true) :
 qc 197 #[pq R 0,.string t] w fun e w'=>e = .returned (.bool true)/\Rd R a cap ts w' l.tail/\Keeps R w w':=by
 obtain ⟨k,hk,rfl,hb⟩:=h.idx;have A0:=z7p ht hs;have HR:Hid (Rd R a cap ts w (ts.drop k)):=h;have HA:Hid (qc 252 #[pq R 0,qi 0] w fun e w'=>e = .returned (.agg #[qi (hd (ts.drop k)).kind,qi (hd (ts.drop k)).n,.string (hd (ts.drop k)).text])/\qb w w'):=zpn R cap a ts (ts.drop k) w h
 have HT:Hid ((ts.drop k).tail=ts.drop (k+1)):=by show List.tail _=_;rw [List.tail_drop]
 have Fs:=h.len;have Ew:((hd (ts.drop k)).text.toList == t.toList)=true:=hs;have HB:Hid (w.heap[R]? = some (.cells #[.slice a ts.length cap,qi k] 239 (0,0))):=hb;clear h hs hb;generalize hd (ts.drop k)=T at *;have Eh:=zs9 T.kind T.n T.text;go_enter Tryz.func197,Tryz.ntmps197;go_wp2_with fail;refine HA.out.mono ?_;rintro e w1 ⟨rfl,A5⟩;have A8:Hid (w1.heap[R]? = some (.cells #[.slice a ts.length cap,qi k] 239 (0,0))):=(A5.block R HR.out.lt).trans HB.out
 have Bg:w1.cell? (qa R 1)=some (qi k):=by rw [vep A8.out];rfl
 have DD:w1.frozen? (qa R 1)=false:=veq A8.out 1;clear HA;go_wp2_with fail;go_ret;refine ⟨rfl,?_,(Keeps.of_below A5 R).trans (Keeps.setCell R w1 1 _)⟩;rw [HT.out];exact (HR.out.later A5).adv A0 A8.out
theorem zcf (R cap:Nat) (a:OA) (ts l:List Tk) (t:ByteArray) (w:World) (h:Rd R a cap ts w l) (hs:skB l t=false) :
 qc 197 #[pq R 0,.string t] w fun e w'=>e = .returned (.bool false)/\Rd R a cap ts w' l/\Keeps R w w':=by
 have HR:Hid (Rd R a cap ts w l):=h;have HA:Hid (qc 252 #[pq R 0,qi 0] w fun e w'=>e = .returned (.agg #[qi (hd l).kind,qi (hd l).n,.string (hd l).text])/\qb w w'):=zpn R cap a ts l w h;have Ew:((hd l).text.toList == t.toList)=false:=hs;clear h hs;generalize hd l=T at *;have Eh:=zs9 T.kind T.n T.text;go_enter Tryz.func197,Tryz.ntmps197;go_wp2_with fail;refine HA.out.mono ?_;rintro e w1 ⟨rfl,A5⟩;clear HA;go_wp2_with fail;go_ret;exact ⟨rfl,HR.out.later A5,Keeps.of_below A5 R⟩
theorem take_any (R cap:Nat) (a:OA) (ts l:List Tk) (w:World) (h:Rd R a cap ts w l) :
 qc 251 #[pq R 0] w fun e w'=>e = .returned (.agg #[qi (hd l).kind,qi (hd l).n,.string (hd l).text])/\(l≠[]->Rd R a cap ts w' l.tail)/\Keeps R w w':=by
 obtain ⟨k,hk,rfl,hb⟩:=h.idx;have HR:Hid (Rd R a cap ts w (ts.drop k)):=h;have Fs:=h.len
 have HN:Hid (ts.drop k≠[]->k<ts.length):=fun Aj=>by
  by_cases hk:k<ts.length
  . exact hk
  . exact absurd (vct (by omega)) Aj
 have HT:Hid ((ts.drop k).tail=ts.drop (k+1)):=by show List.tail _=_;rw [List.tail_drop]
 have HB:Hid (w.heap[R]? = some (.cells #[.slice a ts.length cap,qi k] 239 (0,0))):=hb
 have HA:Hid (∀ w:World,Rd R a cap ts w (ts.drop k)->qc 252 #[pq R 0,qi 0] w fun e w'=>e = .returned (.agg #[qi (hd (ts.drop k)).kind,qi (hd (ts.drop k)).n,.string (hd (ts.drop k)).text])/\qb w w'):=fun w h=>zpn R cap a ts (ts.drop k) w h
 clear h hb;generalize hd (ts.drop k)=T at *;go_enter Tryz.func251,Tryz.ntmps251;go_wp2_with fail;refine (HA.out _ (HR.out.later ((Below.refl _ _).alloc (vaa _) _))).mono ?_;rintro e w1 ⟨rfl,A5⟩;have Di:qb w w1:=((Below.refl _ _).alloc (vaa _) _).trans (A5.mono (by simp));have PW:=HR.out.lt;have Ao:=A5.size;simp at Ao;have A8:Hid (w1.heap[R]? = some (.cells #[.slice a ts.length cap,qi k] 239 (0,0))):=(Di.block R PW).trans HB.out
 have Bg:w1.cell? (qa R 1)=some (qi k):=by rw [vep A8.out];rfl
 have DD:w1.frozen? (qa R 1)=false:=veq A8.out 1;have G2:w1.heap[w.heap.size]? = some (.cells #[qi 0,qi 0,.string ⟨#[]⟩] 184):=(A5.block w.heap.size (by simp)).trans (_root_.Go.heap_alloc_new w _)
 have Fw:w1.cell? (qa w.heap.size 0)=some (qi 0):=by rw [vep G2];rfl
 have C8:w1.cell? (qa w.heap.size 1)=some (qi 0):=by rw [vep G2];rfl
 have Df:w1.cell? (qa w.heap.size 2)=some (.string ⟨#[]⟩):=by rw [vep G2];rfl
 have On:w1.frozen? (qa w.heap.size 0)=false:=veq G2 0;have Ij:w1.frozen? (qa w.heap.size 1)=false:=veq G2 1;have DC:w1.frozen? (qa w.heap.size 2)=false:=veq G2 2;clear G2
 have Bk:R<w1.heap.size:=by omega
 have PT:w.heap.size<w1.heap.size:=by omega
 have Aj:w.heap.size≠R:=by omega
 go_wp2_with fail;refine bodyPost_ret (v:=.agg #[qi T.kind,qi T.n,.string T.text]) (by simp [results,Tryz.results251,go_sem,Fw,C8,Df,PT]) rfl ⟨rfl,fun LN=>?_,?_⟩
 . rw [HT.out]
   exact (((((HR.out.later Di).adv (HN.out LN) A8.out).setAbove HR.out (vaa _) _).setAbove HR.out (vaa _) _).setAbove HR.out (vaa _) _).alloc _
 . exact ((((Keeps.of_below Di R).own 1 _).set (vaa _) _).set (vaa _) _).set (vaa _) _ |>.alloc _
theorem zj1 (s:ByteArray) (w:World) :
 qc 237 #[.string s] w fun e w'=>e = .returned (.bool (zu6 s))/\w'=w:=by
 go_enter Tryz.func237,Tryz.ntmps237;go_wp2_with fail
 all_goals go_ret
 all_goals exact ⟨ret_bool (by simp_all [zu6,z6f]),rfl⟩
def zd8 {α:Type} (R:Nat) (a:OA) (cap:Nat) (ts:List Tk) (w:World) (r:Option (α × List Tk)) (AD:α->World->Value->Prop) (e:Ending) (w':World):Prop:=
 Keeps R w w'/\((r=none/\e = .panicked zbb)\/∃ x l v,r=some (x,l)/\e = .returned v/\AD x w' v/\Rd R a cap ts w' l)
theorem Rd.fit {R cap:Nat} {a:OA} {ts l:List Tk} {w:World} (h:Rd R a cap ts w l):(hd l).text.size<=maxLen:=by
 obtain ⟨k,hk,rfl,hb⟩:=h.idx
 by_cases A0:k<ts.length
 . rw [z3s A0]
   obtain ⟨b,off,_,hT⟩:=h.toks.place A0;exact hT.fits k A0
 . rw [z2i A0];exact vae _
theorem zje (R cap:Nat) (a:OA) (ts l:List Tk) (w:World) (h:Rd R a cap ts w l) :
 qc 196 #[pq R 0] w (zd8 R a cap ts w (zd3 l) fun x _ v=>v = .string x/\x.size<=maxLen):=by
 have HT:Hid (qc 251 #[pq R 0] w fun e w'=>e = .returned (.agg #[qi (hd l).kind,qi (hd l).n,.string (hd l).text])/\(l≠[]->Rd R a cap ts w' l.tail)/\Keeps R w w'):=take_any R cap a ts l w h;have HF:Hid ((hd l).text.size<=maxLen):=h.fit;go_enter Tryz.func196,Tryz.ntmps196;go_wp2_with fail;refine HT.out.mono ?_;rintro e w1 ⟨rfl,AV,AJ⟩
 by_cases hk:(hd l).kind=1
 . have HN:Hid (zd3 l=if !zu6 (hd l).text then some ((hd l).text,l.tail) else none):=by show zd3 l=_;unfold zd3;simp [hk]
   have HL:Hid (l≠[]):=zn2 (by rw [hk];decide)
   by_cases hp:zu6 (hd l).text=true
   . go_wp2_with (go_at_call 237;refine (zj1 _ _).mono ?_;rintro e w' ⟨rfl,rfl⟩)
     exact ⟨rfl,AJ.alloc _,Or.inl ⟨by rw [HN.out,hp];rfl,rfl⟩⟩
   . have Gy:zu6 (hd l).text=false:=by simpa using hp
     clear hp
     go_wp2_with (go_at_call 237;refine (zj1 _ _).mono ?_;rintro e w' ⟨rfl,rfl⟩)
     go_ret;exact ⟨AJ.alloc _,Or.inr ⟨_,_,_,by rw [HN.out,Gy];rfl,rfl,⟨rfl,HF.out⟩,(AV HL.out).alloc _⟩⟩
 . have HN:Hid (zd3 l=none):=by show zd3 l=_;unfold zd3;simp [hk]
   go_wp2_with fail;exact ⟨rfl,AJ.alloc _,Or.inl ⟨HN.out,rfl⟩⟩
theorem zre (R cap:Nat) (a:OA) (ts l:List Tk) (w:World) (h:Rd R a cap ts w l) :
 qc 253 #[pq R 0] w (zd8 R a cap ts w (pNum l) fun x _ v=>v=qi x):=by
 have HT:Hid (qc 251 #[pq R 0] w fun e w'=>e = .returned (.agg #[qi (hd l).kind,qi (hd l).n,.string (hd l).text])/\(l≠[]->Rd R a cap ts w' l.tail)/\Keeps R w w'):=take_any R cap a ts l w h;go_enter Tryz.func253,Tryz.ntmps253;go_wp2_with fail;refine HT.out.mono ?_;rintro e w1 ⟨rfl,AV,AJ⟩
 by_cases hk:(hd l).kind=2
 . have HN:Hid (pNum l=some ((hd l).n,l.tail)):=by show pNum l=_;unfold pNum;simp [hk]
   have HL:Hid (l≠[]):=zn2 (by rw [hk];decide);go_wp2_with fail;go_ret;exact ⟨AJ.alloc _,Or.inr ⟨_,_,_,HN.out,rfl,rfl,(AV HL.out).alloc _⟩⟩
 . have HN:Hid (pNum l=none):=by show pNum l=_;unfold pNum;simp [hk]
   go_wp2_with fail;exact ⟨rfl,AJ.alloc _,Or.inl ⟨HN.out,rfl⟩⟩
theorem zxh {α:Type} {p:α->Bool}:∀ {l:List α},(l.take l.length).all (fun x=>!p x)=true->l.find? p=none:=by
 intro l h;rw [vat] at h;rw [List.find?_eq_none];intro x hx;have:=var.1 h x hx;simpa using this
theorem zrf {α:Type} {p:α->Bool}:∀ {l:List α} {k:Nat} (hk:k<l.length),(l.take k).all (fun x=>!p x)=true->p l[k]=true->l.find? p=some l[k]
 | [],k,hk,_,_=>by simp at hk
 | x :: r,0,hk,_,h=>by simp at h;simp [h]
 | x :: r,k+1,hk,ha,h=>by
   simp only [List.take_succ_cons,vcy,vab] at ha
   have hx:p x=false:=by simpa using ha.1
   rw [vcr,hx];exact zrf (by simpa using hk) ha.2 h
theorem zjf (R cap b c:Nat) (a:OA) (ts l:List Tk) (As:List ByteArray) (w:World) (h:Rd R a cap ts w l) (hb:b<w.heap.size) (Mr:b≠R) (hn:As.length<=100)
 (hc:∀ i (h:i<As.length),w.cell? (qa b i)=some (.string As[i])) (hp:∀ i (h:i<As.length),0<As[i].size) :
 qc 195 #[pq R 0,.slice (some (qa b 0)) As.length c] w (zd8 R a cap ts w ((zi0 l As).map fun t=>(t,l.tail)) fun x _ v=>v = .string x):=by
 have HR:Hid (Rd R a cap ts w l):=h;have HC:Hid (∀ i (h:i<As.length),w.cell? (qa b i)=some (.string As[i])):=hc;have HP:Hid (∀ i (h:i<As.length),0<As[i].size):=hp;clear h hc hp;go_enter Tryz.func195,Tryz.ntmps195;go_wp2_with fail
 go_loopw [9,6] (fun i _ wr=>∃ k:Nat,k<=As.length/\i=qi k/\(As.take k).all (fun t=>!skB l t)=true/\Rd R a cap ts wr l/\Keeps R w wr) (fun i _ _=>As.length - (intOf i).toNat)
 case atStart=>exact ⟨0,vae _,rfl,rfl,HR.out,Keeps.refl _ _⟩
 case round=>
  obtain ⟨k,hk,rfl,A6,D6,Bf⟩:=hrel;have HA:Hid ((As.take k).all (fun t=>!skB l t)=true):=A6;have HD:Hid (Rd R a cap ts wr l):=D6;clear A6 D6
  by_cases A0:k<As.length
  . have F6:wr.cell? (qa b k)=some (.string As[k]):=(Bf.cell hb Mr).trans (HC.out k A0)
    by_cases hs:skB l As[k]=true
    . have HS:Hid (qc 197 #[pq R 0,.string As[k]] wr fun e w'=>e = .returned (.bool true)/\Rd R a cap ts w' l.tail/\Keeps R wr w'):=zbl R cap a ts l As[k] wr (HP.out k A0) HD.out hs
      have HM:Hid (zi0 l As=some As[k]):=zrf A0 HA.out hs
      go_wp2_with (go_at_call 197;refine HS.out.mono ?_;rintro e w2 ⟨rfl,Am,AM⟩)
      go_ret;exact ⟨Bf.trans AM,Or.inr ⟨_,_,_,by rw [HM.out];rfl,rfl,rfl,Am⟩⟩
    . have Ew:skB l As[k]=false:=by simpa using hs
      have HS:Hid (qc 197 #[pq R 0,.string As[k]] wr fun e w'=>e = .returned (.bool false)/\Rd R a cap ts w' l/\Keeps R wr w'):=zcf R cap a ts l As[k] wr HD.out Ew
      go_wp2_with (go_at_call 197;refine HS.out.mono ?_;rintro e w2 ⟨rfl,Am,AM⟩)
      go_roundw
      case rel=>exact ⟨k+1,by omega,by go_num,by rw [all_snoc As _ k A0,HA.out,Ew];rfl,Am,Bf.trans AM⟩
      case measure=>simp [intOf];omega
  . have M2:k=As.length:=by omega
    subst M2;have HM:Hid (zi0 l As=none):=zxh HA.out;go_wp2_with fail;exact ⟨rfl,Bf,Or.inl ⟨by rw [HM.out];rfl,rfl⟩⟩
theorem zlk (R cap n:Nat) (a:OA) (ts l:List Tk) (t:ByteArray) (w:World) (hn:n=w.heap.size) (h:Rd R a cap ts w l) (ht:0<t.size) :
 qc 195 #[pq R 0,.slice (some (qa n 0)) 1 1] (w.alloc (.cells #[.string t] 9)) fun e w'=>Keeps R w w'/\((skB l t=false/\e = .panicked zbb)\/(skB l t=true/\e = .returned (.string t)/\Rd R a cap ts w' l.tail)):=by
 have A0:=h.lt;subst hn;refine (zjf R cap w.heap.size 1 a ts l [t] _ (h.alloc _) (by simp) (by omega) (by simp) (fun i hi=>?_) (fun i hi=>?_)).mono ?_
 . obtain rfl:i=0:=by simp at hi;omega
   simp
 . obtain rfl:i=0:=by simp at hi;omega
   exact ht
 . rintro e w' ⟨hk,hr⟩
   refine ⟨((Keeps.refl R w).alloc _).trans hk,?_⟩
   have hm:zi0 l [t]=if skB l t then some t else none:=by unfold zi0;rw [vcr];cases skB l t<;>rfl
   rw [hm] at hr
   cases hs:skB l t
   . rw [hs] at hr
     rcases hr with ⟨_,rfl⟩ | ⟨x,l',v,hr,_⟩
     . exact Or.inl ⟨rfl,rfl⟩
     . simp at hr
   . rw [hs] at hr
     rcases hr with ⟨hr,_⟩ | ⟨x,l',v,hr,rfl,rfl,hR⟩
     . simp at hr
     . simp at hr
       obtain ⟨rfl,rfl⟩:=hr;exact Or.inr ⟨rfl,rfl,hR⟩
set_option maxHeartbeats 800000
theorem heap_set {w:World} {b i:Nat} {cs:Array Value} {t:TypeId} {f:Nat × Nat} (h:w.heap[b]? = some (.cells cs t f)) (u:Value):(w.setCell (qa b i) u).heap[b]? = some (.cells (cs.setIfInBounds i u) t f):=by
 simp [World.setCell,Array.getElem?_modify,h]
theorem heap_set_ne {w:World} {b:Nat} {p:Addr} (h:b≠p.block) (u:Value):(w.setCell p u).heap[b]? = w.heap[b]?:=Below.heap_setCell w p u b h
theorem zab {w:World} {b:Nat} {x o:Obj} (h:w.heap[b]? = some x):(w.alloc o).heap[b]? = some x:=((Below.refl w.heap.size w).alloc (vaa _) o |>.block b (lt_of_heap h)).trans h
theorem heap_newP (w:World) (o:Obj):(w.alloc o).heap[w.heap.size]? = some o:=_root_.Go.heap_alloc_new w o
theorem zaa {w:World} {b:Nat} {x0 x1 x2 x3 x4:Value} {t:TypeId} (h:w.heap[b]? = some (.cells #[x0,x1,x2,x3,x4] t (0,0))) :
 w.cell? (qa b 0)=some x0/\w.cell? (qa b 1)=some x1/\w.cell? (qa b 2)=some x2/\w.cell? (qa b 3)=some x3/\w.cell? (qa b 4)=some x4/\∀ i,w.frozen? (qa b i)=false:=by
 refine ⟨?_,?_,?_,?_,?_,fun i=>veq h i⟩<;>(rw [vep h];rfl)
theorem zal {w:World} {b:Nat} {x0 x1 x2 x3 x4 x5:Value} {t:TypeId} (h:w.heap[b]? = some (.cells #[x0,x1,x2,x3,x4,x5] t (0,0))) :
 w.cell? (qa b 0)=some x0/\w.cell? (qa b 1)=some x1/\w.cell? (qa b 2)=some x2/\w.cell? (qa b 3)=some x3/\w.cell? (qa b 4)=some x4/\w.cell? (qa b 5)=some x5/\∀ i,w.frozen? (qa b i)=false:=by
 refine ⟨?_,?_,?_,?_,?_,?_,fun i=>veq h i⟩<;>(rw [vep h];rfl)
theorem z0h {w:World} {b:Nat} {x0 x1 x2 x3:Value} {t:TypeId} (h:w.heap[b]? = some (.cells #[x0,x1,x2,x3] t (0,0))) :
 w.cell? (qa b 0)=some x0/\w.cell? (qa b 1)=some x1/\w.cell? (qa b 2)=some x2/\w.cell? (qa b 3)=some x3/\∀ i,w.frozen? (qa b i)=false:=by
 refine ⟨?_,?_,?_,?_,fun i=>veq h i⟩<;>(rw [vep h];rfl)
theorem zad.keeps {R:Nat} {w w1 w2:World} {A A':Nat->Prop} (h:zad w A w1 A') (hk:Keeps R w1 w2) (hR:∀ b,b<w.heap.size->A b->b≠R):zad w A w2 A':=
 ⟨vbd h.1 hk.size,fun b hb ha=>⟨(h.2 b hb ha).1,(hk.block b (vah hb h.1) (hR b hb ha)).trans (h.2 b hb ha).2⟩⟩
theorem zad.set {w w1:World} {A A':Nat->Prop} (h:zad w A w1 A') {p:Addr} (hp:∀ b,b<w.heap.size->A b->b≠p.block) (u:Value):zad w A (w1.setCell p u) A':=
 ⟨by rw [vaq];exact h.1,fun b hb ha=>⟨(h.2 b hb ha).1,(Below.heap_setCell w1 p u b (hp b hb ha)).trans (h.2 b hb ha).2⟩⟩
theorem zad.to {w w1:World} {lo lo':Nat} (h:zad w (lo<=·) w1 (lo<=·)) (hl:lo'<=lo):zad w (lo<=·) w1 (lo'<=·):=h.trans (zad.lower hl)
theorem Keeps.drew {R:Nat} {w w1:World} (h:Keeps R w w1):Keeps R w w1.drew:=⟨h.os,h.tape,h.output,h.size,h.block⟩
theorem Rd.drew {R cap:Nat} {a:OA} {ts l:List Tk} {w:World} (h:Rd R a cap ts w l):Rd R a cap ts w.drew l:=h.still (Keeps.refl R w).drew rfl
theorem zad.drew {w w1:World} {A A':Nat->Prop} (h:zad w A w1 A'):zad w A w1.drew A':=⟨h.1,h.2⟩
abbrev set5 (w:World) (b:Nat) (v0 v1 v2 v3 v4:Value):World:=((((w.setCell (qa b 0) v0).setCell (qa b 1) v1).setCell (qa b 2) v2).setCell (qa b 3) v3).setCell (qa b 4) v4
abbrev set6 (w:World) (b:Nat) (v0 v1 v2 v3 v4 v5:Value):World:=(set5 w b v0 v1 v2 v3 v4).setCell (qa b 5) v5
section
variable {R cap b:Nat} {w w0 w1:World} {a:OA} {ts l l0:List Tk} {A A':Nat->Prop}
theorem Keeps.set5 (h:Keeps R w w1) (hp:w.heap.size<=b) (v0 v1 v2 v3 v4:Value):Keeps R w (set5 w1 b v0 v1 v2 v3 v4):=((((h.set hp v0).set hp v1).set hp v2).set hp v3).set hp v4
theorem Keeps.set6 (h:Keeps R w w1) (hp:w.heap.size<=b) (v0 v1 v2 v3 v4 v5:Value):Keeps R w (set6 w1 b v0 v1 v2 v3 v4 v5):=(h.set5 hp v0 v1 v2 v3 v4).set hp v5
theorem Rd.set5 (h:Rd R a cap ts w1 l) (h0:Rd R a cap ts w0 l0) (hp:w0.heap.size<=b) (v0 v1 v2 v3 v4:Value):Rd R a cap ts (set5 w1 b v0 v1 v2 v3 v4) l:=((((h.setAbove h0 hp v0).setAbove h0 hp v1).setAbove h0 hp v2).setAbove h0 hp v3).setAbove h0 hp v4
theorem Rd.set6 (h:Rd R a cap ts w1 l) (h0:Rd R a cap ts w0 l0) (hp:w0.heap.size<=b) (v0 v1 v2 v3 v4 v5:Value):Rd R a cap ts (set6 w1 b v0 v1 v2 v3 v4 v5) l:=(h.set5 h0 hp v0 v1 v2 v3 v4).setAbove h0 hp v5
theorem zad.set5 (h:zad w A w1 A') (hp:∀ k,k<w.heap.size->A k->k≠b) (v0 v1 v2 v3 v4:Value):zad w A (set5 w1 b v0 v1 v2 v3 v4) A':=((((h.set hp v0).set hp v1).set hp v2).set hp v3).set hp v4
theorem zad.set6 (h:zad w A w1 A') (hp:∀ k,k<w.heap.size->A k->k≠b) (v0 v1 v2 v3 v4 v5:Value):zad w A (set6 w1 b v0 v1 v2 v3 v4 v5) A':=(h.set5 hp v0 v1 v2 v3 v4).set hp v5
end
def zgf (A:Nat->Prop) (x:Ex) (w:World) (v:Value):Prop:=∃ a cap,v = .agg #[qi x.op,qi x.n,.string x.mod,.string x.name,.slice a x.args.length cap]/\x.mod.size<=maxLen/\x.name.size<=maxLen/\EAt w A a x.args.length (zb0 x.args)
def ze3 (x:Ex) (a:OA) (cap:Nat):List Value:=[qi x.op,qi x.n,.string x.mod,.string x.name,.slice a x.args.length cap]
theorem ze4 {A:Nat->Prop} {x:Ex} {w:World} {a:OA} {cap:Nat} (h1:x.mod.size<=maxLen) (h2:x.name.size<=maxLen) (h3:EAt w A a x.args.length (zb0 x.args)):zat w A x.ds (ze3 x a cap):=by
 cases x
 unfold Ex.ds;exact .cons zqp (.cons zqp (.cons (z38 h1) (.cons (z38 h2) (.cons h3.val .nil))))
theorem zj2 {A A':Nat->Prop} {x:Ex} {w w':World} {a:OA} {cap g:Nat} {t:TypeId} (h1:x.mod.size<=maxLen) (h2:x.name.size<=maxLen) (h3:EAt w A a x.args.length (zb0 x.args))
 (hm:zad w A w' A') (hg:w'.heap[g]? = some (.cells #[qi x.op,qi x.n,.string x.mod,.string x.name,.slice a x.args.length cap] t (0,0))) (hA:A' g):EAt w' A' (some (qa g 0)) 1 (zb0 [x]):=by
 rw [zns];refine Or.inr ⟨g,0,ze3 x a cap,rfl,hA,lt_of_heap hg,fun j u hj=>?_,ze4 h1 h2 (h3.moves hm)⟩;rw [vax,vep hg];simpa [ze3] using hj
theorem z5y {A B A':Nat->Prop} {x y:Ex} {w u w':World} {a b:OA} {cap dap g:Nat} {t:TypeId} (h:x.mod.size<=maxLen/\x.name.size<=maxLen/\EAt w A a x.args.length (zb0 x.args)) (k:y.mod.size<=maxLen/\y.name.size<=maxLen/\EAt u B b y.args.length (zb0 y.args))
 (hm:zad w A w' A') (km:zad u B w' A') (hg:w'.heap[g]? = some (.cells #[qi x.op,qi x.n,.string x.mod,.string x.name,.slice a x.args.length cap,qi y.op,qi y.n,.string y.mod,.string y.name,.slice b y.args.length dap] t (0,0))) (hA:A' g):EAt w' A' (some (qa g 0)) 2 (zb0 [x,y]):=by
 have e:zb0 [x,y]=x.ds++y.ds:=by simp [zb0]
 rw [e];refine Or.inr ⟨g,0,ze3 x a cap++ze3 y b dap,rfl,hA,lt_of_heap hg,fun j u hj=>?_,(ze4 h.1 h.2.1 (h.2.2.moves hm)).append (ze4 k.1 k.2.1 (k.2.2.moves km))⟩;rw [vax,vep hg];simpa [ze3] using hj
theorem zxi (R cap:Nat) (a:OA) (ts l:List Tk) (w:World) (h:Rd R a cap ts w l) :
 qc 294 #[pq R 0] w (zd8 R a cap ts w (zzo l) fun x _ v=>v = .tuple #[.string x.1,.string x.2]/\x.1.size<=maxLen/\x.2.size<=maxLen):=by
 have HN:Hid (qc 196 #[pq R 0] w (zd8 R a cap ts w (zd3 l) fun x _ v=>v = .string x/\x.size<=maxLen)):=zje R cap a ts l w h;clear h;go_enter Tryz.func294,Tryz.ntmps294;go_wp2_with fail;refine HN.out.mono ?_;rintro e w1 ⟨AJ,⟨hn,rfl⟩ | ⟨x,l1,v,hn,rfl,⟨rfl,hx⟩,AV⟩⟩
 . exact ⟨rfl,AJ,Or.inl ⟨by unfold zzo;rw [hn],rfl⟩⟩
 have Em:Hid (zd3 l=some (x,l1)):=hn;have HD:Hid (Rd R a cap ts w1 l1):=AV;clear HN hn AV;go_wp2_with fail
 by_cases hs:skB l1 z5d=true
 . refine (zbl R cap a ts l1 z5d w1 (by decide) HD.out hs).mono ?_
   rintro e w2 ⟨rfl,Am,AM⟩;go_wp2_with fail;refine (zje R cap a ts l1.tail w2 Am).mono ?_;rintro e w3 ⟨At,⟨F1,rfl⟩ | ⟨y,l3,v,F1,rfl,⟨rfl,hy⟩,Av⟩⟩
   . exact ⟨rfl,(AJ.trans AM).trans At,Or.inl ⟨by unfold zzo;rw [Em.out];simp only [];rw [if_pos hs,F1],rfl⟩⟩
   go_wp2_with fail;go_ret2;exact ⟨(AJ.trans AM).trans At,Or.inr ⟨(x,y),l3,_,by unfold zzo;rw [Em.out];simp only [];rw [if_pos hs,F1],rfl,⟨rfl,hx,hy⟩,Av⟩⟩
 . have Ew:skB l1 z5d=false:=by simpa using hs
   refine (zcf R cap a ts l1 z5d w1 HD.out Ew).mono ?_;rintro e w2 ⟨rfl,Am,AM⟩;go_wp2_with fail;go_ret2;exact ⟨AJ.trans AM,Or.inr ⟨(⟨#[]⟩,x),l1,_,by unfold zzo;rw [Em.out];simp only [];rw [if_neg hs],rfl,⟨rfl,vae _,hx⟩,Am⟩⟩
theorem zxj (l:List Tk):(zi0 l opTexts=none/\z07 l=none)\/∃ k:Nat,∃ h:k<opTexts.length,zi0 l opTexts=some opTexts[k]/\z07 l=some k:=by
 unfold z07 zi0
 cases hf:opTexts.findIdx? (fun t=>skB l t) with
 | none=>
   left
   rw [vcn] at hf;refine ⟨List.find?_eq_none.2 fun x hx=>by simpa using hf x hx,rfl⟩
 | some k=>
   right
   obtain ⟨hk,h2,h3⟩:=vbu.1 hf;refine ⟨k,hk,?_,rfl⟩;refine zrf hk ?_ h2;rw [var];intro x hx;obtain ⟨j,hj,rfl⟩:=List.mem_take_iff_getElem.1 hx
   have M6:j<k:=by omega
   simpa using h3 j M6
abbrev opSigns:ByteArray:=⟨#[38,124,43,45,42,47,37,61,60]⟩
theorem zxk (w:World):qc 298 #[.string opSigns,.string ⟨#[]⟩] w fun e w'=>∃ b,e = .returned (.slice (some (qa b 0)) 9 9)/\w.heap.size<=b/\b<w'.heap.size/\(∀ i (h:i<opTexts.length),w'.cell? (qa b i)=some (.string opTexts[i]))/\qb w w':=by
 have Dj:∀ (j:Nat) b,opSigns.data.toList[j]? = some b->b.toNat<128:=by
  intro j b hj;have hm:=vdm hj
  have A6:∀ x ∈ opSigns.data.toList,x.toNat<128:=by decide
  exact A6 b hm
 refine (Tryz.strings_Split_chars opSigns ⟨#[]⟩ w rfl (by decide) Dj).mono ?_;rintro e w' ⟨rfl,rfl⟩;refine ⟨_,rfl,by simp [World.iter],by simp [World.iter],fun i hi=>?_,?_⟩
 . have e9:Lib.charsB opSigns=opTexts:=by decide +kernel
   rw [e9,vep (heap_newP _ _)];simp [hi]
 . exact ((Below.refl w.heap.size w).alloc (vaa _) _).alloc (by simp) _
theorem z0i (R cap b:Nat) (a:OA) (ts l:List Tk) (w:World) (h:Rd R a cap ts w l) (hb:b<w.heap.size) (Mr:b≠R) (hc:∀ i (h:i<opTexts.length),w.cell? (qa b i)=some (.string opTexts[i])) :
 qc 195 #[pq R 0,.slice (some (qa b 0)) 9 9] w fun e w'=>Keeps R w w'/\((z07 l=none/\e = .panicked zbb)\/∃ (k:Nat) (c:UInt8),z07 l=some k/\k<9/\Lib.indexByte opSigns.data.toList c=k/\e = .returned (.string ⟨#[c]⟩)/\Rd R a cap ts w' l.tail):=by
 refine (zjf R cap b 9 a ts l opTexts w h hb Mr (by decide) hc (by decide)).mono ?_;rintro e w' ⟨hk,hr⟩;refine ⟨hk,?_⟩
 rcases zxj l with ⟨hm,ho⟩ | ⟨k,hk,hm,ho⟩
 . rw [hm] at hr
   rcases hr with ⟨_,rfl⟩ | ⟨_,_,_,h0,_⟩
   . exact Or.inl ⟨ho,rfl⟩
   . cases h0
 . rw [hm] at hr
   rcases hr with ⟨h0,_⟩ | ⟨t3,l3,v3,h0,rfl,rfl,Av⟩
   . cases h0
   . obtain ⟨rfl,rfl⟩:=vbc (vai h0)
     right
     have hs:∀ k (h:k<opTexts.length),∃ c:UInt8,opTexts[k]=⟨#[c]⟩/\Lib.indexByte opSigns.data.toList c=k:=by
      intro k hk;have F5:k<9:=hk
      obtain rfl | rfl | rfl | rfl | rfl | rfl | rfl | rfl | rfl:k=0\/k=1\/k=2\/k=3\/k=4\/k=5\/k=6\/k=7\/k=8:=by omega
      all_goals exact ⟨_,rfl,by decide +kernel⟩
     obtain ⟨c,Bg,C1⟩:=hs k hk;exact ⟨k,c,ho,hk,C1,by rw [Bg],Av⟩
theorem Tryz.infoP80:(Tryz.prog.info? 174).map (fun i=>(i.zero,i.size,i.bytes))=some (some (.agg #[qi 0,qi 0,.string ⟨#[]⟩,.string ⟨#[]⟩,qs]),5,72):=by kernel_rfl
theorem Tryz.infoP48:(Tryz.prog.info? 176).map (fun i=>(i.zero,i.size,i.bytes))=some (some (.agg #[qi 0,.string ⟨#[]⟩,.string ⟨#[]⟩,qs,qs,qs]),6,112):=by kernel_rfl
theorem Tryz.infoP9:(Tryz.prog.info? 9).map (fun i=>(i.zero,i.size,i.bytes))=some (some (.string ⟨#[]⟩),1,16):=by kernel_rfl
theorem zxl {R:Nat} {w w':World} {base:Nat} {e:TypeId} {size:Nat} {v:Value} {n:Nat} {xs:List Value} (h:w.ownsRow base e size v n xs) (hk:Keeps R w w') (hR:R<base):w'.ownsRow base e size v n xs:=by
 refine ⟨h.1,?_⟩
 rcases h.2 with h2 | ⟨g,cap,AC,h1,hb,hg,hr⟩
 . exact Or.inl h2
 . exact Or.inr ⟨g,cap,AC,h1,hb,(hk.block g (lt_of_heap hg) (by omega)).trans hg,hr⟩
def zg7 (lo:Nat) (v:Value) (b:Nat):Prop:=lo<=b/\v.ownBlock≠some b
def Row (base:Nat) (e:TypeId) (size:Nat) (w:World) (v:Value) (n:Nat) (ds:List D):Prop:=∃ xs,w.ownsRow base e size v n xs/\zat w (zg7 base v) ds xs
section
variable {base:Nat} {e:TypeId} {size:Nat} {w w':World} {v:Value} {n R:Nat} {ds:List D}
theorem Row.nil (base:Nat) (e:TypeId) (size:Nat) (w:World):Row base e size w (qs) 0 []:=⟨[],ver _ _ _ _,.nil⟩
theorem Row.keeps (h:Row base e size w v n ds) (hk:Keeps R w w') (hR:R<base):Row base e size w' v n ds:=by
 obtain ⟨xs,h1,h2⟩:=h;refine ⟨xs,zxl h1 hk hR,h2.moves ((zad.refl w _).keeps hk ?_)⟩
 intro b _ hb;have:=hb.1;omega
theorem Row.later (h:Row base e size w v n ds) (hb:qb w w'):Row base e size w' v n ds:=by
 obtain ⟨xs,h1,h2⟩:=h;exact ⟨xs,ownsRow_later h1 hb,h2.moves (zad.of_below hb _)⟩
theorem Row.alloc (h:Row base e size w v n ds) (o:Obj):Row base e size (w.alloc o) v n ds:=h.later ((Below.refl _ _).alloc (vaa _) o)
theorem Row.set (h:Row base e size w v n ds) {p:Addr} (hp:p.block<base) (u:Value):Row base e size (w.setCell p u) v n ds:=by
 obtain ⟨xs,h1,h2⟩:=h;refine ⟨xs,ownsRow_setCell_below h1 hp u,h2.moves ((zad.refl w _).set ?_ u)⟩
 intro b _ hb;have:=hb.1;omega
theorem Row.slice (h:Row base e size w v n ds):∃ a cap,v = .slice a n cap/\EAt w (base<=·) a n ds:=by
 obtain ⟨xs,h1,h2⟩:=h
 have hm:zad w (zg7 base v) w (base<=·):=⟨vaa _,fun b _ hb=>⟨hb.1,rfl⟩⟩
 rcases h1.2 with ⟨rfl,rfl⟩ | ⟨g,cap,AC,rfl,_⟩
 . exact ⟨none,0,rfl,Or.inl rfl⟩
 . exact ⟨_,cap,rfl,EAt.of_own h1 (fun _ h=>h) (h2.moves hm)⟩
theorem Row.lt (h:Row base e size w v n ds):∀ k,v.ownBlock=some k->base<=k/\k<w.heap.size:=by
 obtain ⟨xs,h1,_⟩:=h;exact h1.lt
theorem Row.one {A:Nat->Prop} {cs:Array Value} {g:Nat} (hg:w.heap[g]? = some (.cells cs e (0,0))) (hb:base<=g) (hs:cs.size=size) (hd:zat w A ds cs.toList) (hA:∀ b,b<w.heap.size->A b->base<=b/\b≠g) :
 Row base e size w (.slice (some (qa g 0)) 1 1) 1 ds:=by
 refine ⟨cs.toList,⟨by simp [hs],Or.inr ⟨g,1,cs,rfl,hb,hg,vaa _,by unfold maxLen;omega,by omega,by rw [vdr,← hs];exact vau (by simp)⟩⟩,hd.moves ⟨vaa _,fun b h1 h2=>⟨⟨(hA b h1 h2).1,fun h=>(hA b h1 h2).2 ?_⟩,rfl⟩⟩⟩;simp only [Value.ownBlock] at h;exact (vai h).symm
theorem Row.first {A:Nat->Prop} {cs:Array Value} (hd:zat w A ds cs.toList) (hA:∀ b,b<w.heap.size->A b->base<=b) (hb:base<=w.heap.size) (hs:cs.size=size) :
 Row base e size (w.alloc (.cells cs e)) (.slice (some (qa w.heap.size 0)) 1 1) 1 ds:=by
 refine Row.one (heap_newP w _) hb hs (A:=fun b=>A b/\b<w.heap.size) (hd.moves ⟨by simp,fun b h1 h2=>⟨⟨h2,h1⟩,((Below.refl w.heap.size w).alloc (vaa _) (.cells cs e)).block b h1⟩⟩) ?_;intro b _ h2;exact ⟨hA b h2.2 h2.1,by omega⟩
end
theorem zbn {P:Program} {ops:Array Oper} {rest:List Oper} {o:Oper} {a:Act} {Q:Exit->Act->World->Prop} (BC:o.guard=none) (s x:Operand) (t:TypeId)
 (ho:o.op = .call { callee:=.builtin .append,args:=#[s,x],argTypes:=#[t,t] }) (base:Nat) (e:TypeId) (z:Value) (size bytes:Nat) (ht:P.underlying t=some (.slice e))
 (hi:(P.info? e).map (fun i=>(i.zero,i.size,i.bytes))=some (some z,size,bytes)) (Ff:z.cells.size=size) (Co:0<size) (w:World) (v:Value) (n:Nat) (ds nd:List D) (hs:a.eval s=v) (Ab:Row base e size w v n ds)
 (cs:Array Value) (H:Nat) (hH:H=w.heap.size) (hx:a.eval x = .slice (some (qa H 0)) 1 1) (AY:cs.size=size) (A:Nat->Prop) (Ie:zat w A nd cs.toList) (hA:∀ b,b<w.heap.size->A b->zg7 base v b)
 (hn:n<=5000) (Dg:bytes<=200) (AN:base<=w.heap.size)
 (h:∀ g cap w',Row base e size w' (.slice (some (qa g 0)) (n+1) cap) (n+1) (ds++nd)->Below base w w'->w.heap.size<w'.heap.size->wpList P ops Q rest (a.put o.dst (.slice (some (qa g 0)) (n+1) cap)) w') :
 wpList P ops Q (o :: rest) a (w.alloc (.cells cs e)):=by
 obtain ⟨i0,hi,Bs,Ao,AA⟩:=info_parts hi;obtain ⟨xs,Ag,Jq⟩:=Ab
 have C6:(w.alloc (.cells cs e)).heap.size=w.heap.size+1:=by simp
 refine wpList_append_lies (w.alloc (.cells cs e)) BC s x t ho base e i0 z size bytes ht hi Bs Ao AA Ff Co v n xs hs (Ag.alloc _) (qa H 0) 1 1 cs.toList hx (by simp [AY]) ?_ Ie.one (by omega) (by unfold maxLen;omega) ?_ (by omega) _ rfl ?_
 . intro j u hj
   subst hH
   have:((qa w.heap.size 0):Addr).add j=(qa w.heap.size j):=by unfold Addr.add;split<;>simp_all
   rw [this,vep (heap_newP w _)];simpa using hj
 . have:(n+1)*bytes<=5001*200:=vdy (by omega) Dg
   omega
 . intro g cap w' Cp AL AF A0
   have GT:Below base w w':=((Below.refl base w).alloc AN _).grown AL (by omega) (fun k hk=>(Ag.lt k hk).1);have M8:=AL.size;refine h g cap w' ⟨xs++cs.toList,Cp,?_⟩ GT (by omega)
   have Fo:∀ A':Nat->Prop,(∀ b,b<w.heap.size->A' b->zg7 base v b)->zad w A' w' (zg7 base (.slice (some (qa g 0)) (n+1) cap)):=by
    intro A' hA';refine ⟨by omega,fun b hb ha=>⟨⟨(hA' b hb ha).1,fun Mb=>?_⟩,?_⟩⟩
    . have GI:g=b:=by simpa [Value.ownBlock] using Mb
      rcases AF with h1 | h1
      . exact (hA' b hb ha).2 (by rw [h1,GI])
      . omega
    . refine (AL.block b (by omega) (fun h=>(hA' b hb ha).2 h.symm)).trans ?_
      exact ((Below.refl w.heap.size w).alloc (vaa _) (.cells cs e)).block b hb
   exact (Jq.moves (Fo _ (fun _ _ h=>h))).append (Ie.moves (Fo A hA))
theorem zfv {P:Program} {ops:Array Oper} {o:Oper} {a:Act} {K:Act->World->Prop} {Q:Exit->Act->World->Prop} {E:Prop} (BC:o.guard=none) (s x:Operand) (t:TypeId)
 (ho:o.op = .call { callee:=.builtin .append,args:=#[s,x],argTypes:=#[t,t] }) (base:Nat) (e:TypeId) (z:Value) (size bytes:Nat) (ht:P.underlying t=some (.slice e))
 (hi:(P.info? e).map (fun i=>(i.zero,i.size,i.bytes))=some (some z,size,bytes)) (Ff:z.cells.size=size) (Co:0<size) (w:World) (v:Value) (n:Nat) (ds nd:List D) (hs:a.eval s=v) (Ab:Row base e size w v n ds)
 (cs:Array Value) (H:Nat) (hH:H=w.heap.size) (hx:a.eval x = .slice (some (qa H 0)) 1 1) (AY:cs.size=size) (A:Nat->Prop) (Ie:zat w A nd cs.toList) (hA:∀ b,b<w.heap.size->A b->zg7 base v b)
 (hn:n<=5000) (Dg:bytes<=200) (AN:base<=w.heap.size)
 (h:∀ g cap w',Row base e size w' (.slice (some (qa g 0)) (n+1) cap) (n+1) (ds++nd)->Below base w w'->w.heap.size<w'.heap.size->K (a.put o.dst (.slice (some (qa g 0)) (n+1) cap)) w') :
 if Region.wanted o (yielded ops a.tmps)=true then Oper.wp P o a (w.alloc (.cells cs e)) K Q else E:=by
 obtain ⟨i0,hi,Bs,Ao,AA⟩:=info_parts hi;obtain ⟨xs,Ag,Jq⟩:=Ab
 have C6:(w.alloc (.cells cs e)).heap.size=w.heap.size+1:=by simp
 refine step_append_lies (w.alloc (.cells cs e)) BC s x t ho base e i0 z size bytes ht hi Bs Ao AA Ff Co v n xs hs (Ag.alloc _) (qa H 0) 1 1 cs.toList hx (by simp [AY]) ?_ Ie.one (by omega) (by unfold maxLen;omega) ?_ (by omega) _ rfl ?_
 . intro j u hj
   subst hH
   have:((qa w.heap.size 0):Addr).add j=(qa w.heap.size j):=by unfold Addr.add;split<;>simp_all
   rw [this,vep (heap_newP w _)];simpa using hj
 . have:(n+1)*bytes<=5001*200:=vdy (by omega) Dg
   omega
 . intro g cap w' Cp AL AF A0
   have GT:Below base w w':=((Below.refl base w).alloc AN _).grown AL (by omega) (fun k hk=>(Ag.lt k hk).1);have M8:=AL.size;refine h g cap w' ⟨xs++cs.toList,Cp,?_⟩ GT (by omega)
   have Fo:∀ A':Nat->Prop,(∀ b,b<w.heap.size->A' b->zg7 base v b)->zad w A' w' (zg7 base (.slice (some (qa g 0)) (n+1) cap)):=by
    intro A' hA';refine ⟨by omega,fun b hb ha=>⟨⟨(hA' b hb ha).1,fun Mb=>?_⟩,?_⟩⟩
    . have GI:g=b:=by simpa [Value.ownBlock] using Mb
      rcases AF with h1 | h1
      . exact (hA' b hb ha).2 (by rw [h1,GI])
      . omega
    . refine (AL.block b (by omega) (fun h=>(hA' b hb ha).2 h.symm)).trans ?_
      exact ((Below.refl w.heap.size w).alloc (vaa _) (.cells cs e)).block b hb
   exact (Jq.moves (Fo _ (fun _ _ h=>h))).append (Ie.moves (Fo A hA))
section
variable {R cap:Nat} {a:OA} {ts l l0:List Tk} {w w0 w':World}
theorem Rd.belowOf (h:Rd R a cap ts w l) (h0:Rd R a cap ts w0 l0) (hb:Below w0.heap.size w w'):Rd R a cap ts w' l:=by
 refine ⟨?_,?_,h.ne,h.len⟩
 . obtain ⟨k,h1,h2,h3⟩:=h.idx
   exact ⟨k,h1,h2,(hb.block R h0.lt).trans h3⟩
 . rcases h0.toks with h4 | ⟨b,off,ha,h4⟩
   . exact Or.inl h4
   . rcases h.toks with h5 | ⟨b',BG,Cd,h5⟩
     . exact Or.inl h5
     . have eq:b'=b:=by rw [ha] at Cd;injection Cd with Cd;injection Cd with e1 e2;exact e1.symm
       subst eq;exact Or.inr ⟨b',BG,Cd,h5.below hb h4.lt⟩
theorem Keeps.belowOf (h:Keeps R w0 w) (hb:Below w0.heap.size w w'):Keeps R w0 w':=
 ⟨hb.os.trans h.os,hb.tape.trans h.tape,hb.output.trans h.output,vbd h.size hb.size,fun k h1 h2=>(hb.block k h1).trans (h.block k h1 h2)⟩
end
def zll (R n:Nat) (w:World):Nat:=match w.cell? ⟨R,1,none⟩ with | some (.int _ k)=>n - k.toNat | _=>0
theorem Rd.left {R cap:Nat} {a:OA} {ts l:List Tk} {w:World} (h:Rd R a cap ts w l):zll R ts.length w=l.length:=by
 obtain ⟨k,hk,rfl,hb⟩:=h.idx;unfold zll;rw [vep hb];simp
set_option maxHeartbeats 1600000
def z7q (A:Nat->Prop) (xs:List Ex) (w:World) (v:Value):Prop:=∃ a cap,v = .slice a xs.length cap/\EAt w A a xs.length (zb0 xs)
structure ExC (R cap:Nat) (a:OA) (ts:List Tk) (f:Nat):Prop where
 expr:∀ (l:List Tk) (w:World),Rd R a cap ts w l->3*l.length+1<=f->qc 283 #[pq R 0] w (zd8 R a cap ts w (zbo f l) (zgf (w.heap.size<=·)))
 pair:∀ (l:List Tk) (w:World),Rd R a cap ts w l->3*l.length+2<=f->qc 293 #[pq R 0] w (zd8 R a cap ts w (zhe f l) (zgf (w.heap.size<=·)))
 args:∀ (l:List Tk) (w:World),Rd R a cap ts w l->3*l.length+2<=f->qc 295 #[pq R 0] w (zd8 R a cap ts w (zew f l) (z7q (w.heap.size<=·)))
theorem zxm (R cap:Nat) (a:OA) (ts:List Tk) (f:Nat) (IH:ExC R cap a ts f) (l:List Tk) (w:World) (h:Rd R a cap ts w l) (hf:3*l.length+2<=f+1) :
 qc 293 #[pq R 0] w (zd8 R a cap ts w (zhe (f+1) l) (zgf (w.heap.size<=·))):=by
 have HI:Hid (ExC R cap a ts f):=IH;have HR:Hid (Rd R a cap ts w l):=h;have CT:=h.lt;clear IH h;go_enter Tryz.func293,Tryz.ntmps293;go_wp2_with fail;refine (HI.out.expr l _ (HR.out.alloc _) (by omega)).mono ?_;rintro e w1 ⟨AJ,⟨hn,rfl⟩ | ⟨x,l1,v,hn,rfl,⟨a1,c1,rfl,AK,AB,hx3⟩,AV⟩⟩
 . exact ⟨rfl,((Keeps.refl R w).alloc _).trans AJ,Or.inl ⟨by unfold zhe;rw [hn],rfl⟩⟩
 have Em:Hid (zbo f l=some (x,l1)):=hn
 have AE:Hid (x.mod.size<=maxLen/\x.name.size<=maxLen/\EAt w1 ((w.heap.size+1)<=·) a1 x.args.length (zb0 x.args)):=⟨AK,AB,by simpa using hx3⟩
 have BI:Hid (Rd R a cap ts w1 l1):=AV;have Fq:=zdc _ _ _ _ hn;have Ao:=AJ.size;simp at Ao;clear hn AK AB hx3 AV;have AX:Hid (Keeps R w w1):=((Keeps.refl R w).alloc _).trans AJ;have A8:Hid (w1.heap[w.heap.size]? = some (.cells #[qi 0,qi 0,.string ⟨#[]⟩,.string ⟨#[]⟩,qs] 174 (0,0))):=(AJ.block w.heap.size (by simp) (by omega)).trans (heap_newP _ _);clear AJ;go_wp2_with fail;refine (zxk _).mono ?_;rintro e w2 ⟨b,rfl,A5,Aa,hbc,Ad⟩;have AM:Hid (Keeps R w1 w2):=((Keeps.refl R w1).alloc _).later Ad;have Am:Hid (Rd R a cap ts w2 l1):=(BI.out.alloc _).later Ad;have Bh:Hid (w2.heap[w1.heap.size]? = some (.cells #[qi x.op,qi x.n,.string x.mod,.string x.name,.slice a1 x.args.length c1] 174 (0,0))):=(Ad.block w1.heap.size (by simp)).trans (heap_newP _ _);have AA:=Ad.size;simp at AA A5;clear Ad;go_wp2_with fail
 refine (z0i R cap b a ts l1 w2 Am.out Aa (by omega) hbc).mono ?_;rintro e w3 ⟨At,⟨ho,rfl⟩ | ⟨k,c,ho,Oh,KL,rfl,Av⟩⟩
 . exact ⟨rfl,(AX.out.trans AM.out).trans At,Or.inl ⟨by unfold zhe;rw [Em.out];simp only [];rw [ho],rfl⟩⟩
 have BO:=At.size;have HM:Hid (z07 l1=some k):=ho;have Pi:Hid (Lib.indexByte opSigns.data.toList c=k):=KL;have CR:=zkj (zyc ho);have C4:Hid (Keeps R w w3):=(AX.out.trans AM.out).trans At;have BF:Hid (w3.heap[w1.heap.size]? = some (.cells #[qi x.op,qi x.n,.string x.mod,.string x.name,.slice a1 x.args.length c1] 174 (0,0))):=(At.block w1.heap.size (by omega) (by omega)).trans Bh.out;have L5:Hid (zad w1 (w.heap.size+1<=·) w3 (w.heap.size+1<=·)):=((zad.refl w1 _).keeps AM.out (by intro b;omega)).keeps At (by intro b;omega);clear ho hbc Bh Am KL;have CD:Hid (Rd R a cap ts w3 l1.tail):=Av;clear Av;go_wp2_with fail;refine (HI.out.expr l1.tail w3 CD.out (by omega)).mono ?_;rintro e w4 ⟨Ay,⟨hn,rfl⟩ | ⟨y,l4,v,hn,rfl,⟨a4,c4,rfl,Da,CW,DQ⟩,AP⟩⟩
 . exact ⟨rfl,C4.out.trans Ay,Or.inl ⟨by unfold zhe;rw [Em.out];simp only [];rw [HM.out];simp only [];rw [hn],rfl⟩⟩
 have K6:Hid (zbo f l1.tail=some (y,l4)):=hn
 have DJ:Hid (y.mod.size<=maxLen/\y.name.size<=maxLen/\EAt w4 (w3.heap.size<=·) a4 y.args.length (zb0 y.args)):=⟨Da,CW,DQ⟩
 have C2:Hid (Rd R a cap ts w4 l4):=AP;have BJ:Hid (Keeps R w w4):=C4.out.trans Ay;have OX:Hid (zad w1 (w.heap.size+1<=·) w4 (w.heap.size+1<=·)):=L5.out.keeps Ay (by intro b;omega);have CU:Hid (w4.heap[w1.heap.size]? = some (.cells #[qi x.op,qi x.n,.string x.mod,.string x.name,.slice a1 x.args.length c1] 174 (0,0))):=(Ay.block w1.heap.size (by omega) (by omega)).trans BF.out;have D4:=Ay.size;have An:Hid (w4.heap[w.heap.size]? = some (.cells #[qi 0,qi 0,.string ⟨#[]⟩,.string ⟨#[]⟩,qs] 174 (0,0))):=(Ay.block w.heap.size (by omega) (by omega)).trans ((At.block w.heap.size (by omega) (by omega)).trans ((AM.out.block w.heap.size (by omega) (by omega)).trans A8.out));clear hn Da CW DQ AP Ay BF L5 C4 CD;go_wp2_with fail;refine (zlk R cap _ a ts l4 tRp _ (by simp) (C2.out.alloc _) (by decide)).mono ?_;rintro e w5 ⟨Ax,⟨FU,rfl⟩ | ⟨FU,rfl,Bl⟩⟩
 . exact ⟨rfl,(BJ.out.alloc _).trans Ax,Or.inl ⟨by unfold zhe;rw [Em.out];simp only [];rw [HM.out];simp only [];rw [K6.out];simp only [];rw [if_neg (by simp [FU])],rfl⟩⟩
 have HP:Hid (zhe (f+1) l=some (.mk (7+k) 0 ⟨#[]⟩ ⟨#[]⟩ [x,y],l4.tail)):=by show zhe (f+1) l=_;unfold zhe;rw [Em.out];simp only [];rw [HM.out];simp only [];rw [K6.out];simp only [];rw [if_pos FU]
 have Cc:=Ax.size;simp at Cc;have BX:Hid (w5.heap[w1.heap.size]? = some (.cells #[qi x.op,qi x.n,.string x.mod,.string x.name,.slice a1 x.args.length c1] 174 (0,0))):=(Ax.block w1.heap.size (by simp;omega) (by omega)).trans (zab CU.out);have Sc:Hid (w5.heap[w4.heap.size]? = some (.cells #[qi y.op,qi y.n,.string y.mod,.string y.name,.slice a4 y.args.length c4] 174 (0,0))):=(Ax.block w4.heap.size (by simp) (by omega)).trans (heap_newP _ _);have Ar:Hid (w5.heap[w.heap.size]? = some (.cells #[qi 0,qi 0,.string ⟨#[]⟩,.string ⟨#[]⟩,qs] 174 (0,0))):=(Ax.block w.heap.size (by simp;omega) (by omega)).trans (zab An.out);obtain ⟨f0,f1,f2,f3,f4,f5⟩:=zaa BX.out;obtain ⟨g0,g1,g2,g3,g4,g5⟩:=zaa Sc.out;obtain ⟨h0,h1,h2,h3,h4,h5⟩:=zaa Ar.out;have G7:Hid (zad w1 (w.heap.size+1<=·) w5 (w.heap.size+1<=·)):=(OX.out.alloc _).keeps Ax (by intro b;omega)
 have Iq:Hid (zad w4 (w3.heap.size<=·) w5 (w3.heap.size<=·)):=((zad.refl w4 _).alloc _).keeps Ax (by intro b;omega);have Dn:Hid (Rd R a cap ts w5 l4.tail):=Bl;have Cv:Hid (Keeps R w w5):=(BJ.out.alloc _).trans Ax;clear Ax Bl FU CU OX C2
 have S2:Hid (∀ w:World,qc 299 #[.string opSigns,.string ⟨#[c]⟩] w fun e w'=>e = .returned (qi k)/\w'=w):=fun w=>by rw [← Pi.out];exact Tryz.strings_Index_one opSigns c w
 have Dc:w.heap.size<w5.heap.size:=by omega
 have Db:w1.heap.size<w5.heap.size:=by omega
 have O4:w4.heap.size<w5.heap.size:=by omega
 clear Pi
 have IZ:IntKind.i64.wrap (7+(k:Int))=7+k:=by simp only [IntKind.wrap,IntKind.bits,IntKind.signed];simp;omega
 have FIN:∀ W:World,W=(((((w5.setCell (qa w.heap.size 0) (qi (7+k))).setCell (qa w.heap.size 1) (qi 0)).setCell (qa w.heap.size 2) (.string ⟨#[]⟩)).setCell (qa w.heap.size 3) (.string ⟨#[]⟩)).setCell (qa w.heap.size 4) (.slice (some (qa w5.heap.size 0)) 2 2)).alloc (.cells #[qi x.op,qi x.n,.string x.mod,.string x.name,.slice a1 x.args.length c1,qi y.op,qi y.n,.string y.mod,.string y.name,.slice a4 y.args.length c4] 174)->
  zd8 R a cap ts w (zhe (f+1) l) (zgf (w.heap.size<=·)) (.returned (.agg #[qi (7+k),qi 0,.string ⟨#[]⟩,.string ⟨#[]⟩,.slice (some (qa w5.heap.size 0)) 2 2])) W.drew:=by
  rintro W rfl;refine ⟨Keeps.drew (Keeps.alloc (((((Cv.out.set (vaa _) _).set (vaa _) _).set (vaa _) _).set (vaa _) _).set (vaa _) _) _),Or.inr ⟨_,_,_,HP.out,rfl,⟨some (qa w5.heap.size 0),2,rfl,vae _,vae _,?_⟩,Rd.drew (Rd.alloc (((((Dn.out.setAbove HR.out (vaa _) _).setAbove HR.out (vaa _) _).setAbove HR.out (vaa _) _).setAbove HR.out (vaa _) _).setAbove HR.out (vaa _) _) _)⟩⟩;refine z5y (t:=174) (cap:=c1) (dap:=c4) AE.out DJ.out (zad.drew (zad.alloc (zad.set (zad.set (zad.set (zad.set (zad.set (G7.out.to (by omega)) ?_ _) ?_ _) ?_ _) ?_ _) ?_ _) _)) (zad.drew (zad.alloc (zad.set (zad.set (zad.set (zad.set (zad.set (Iq.out.to (by omega)) ?_ _) ?_ _) ?_ _) ?_ _) ?_ _) _)) ?_ (by omega)
  all_goals first | (intro b;simp only [];omega) | skip
  have e:=heap_newP (((((w5.setCell (qa w.heap.size 0) (qi (7+k))).setCell (qa w.heap.size 1) (qi 0)).setCell (qa w.heap.size 2) (.string ⟨#[]⟩)).setCell (qa w.heap.size 3) (.string ⟨#[]⟩)).setCell (qa w.heap.size 4) (.slice (some (qa w5.heap.size 0)) 2 2)) (.cells #[qi x.op,qi x.n,.string x.mod,.string x.name,.slice a1 x.args.length c1,qi y.op,qi y.n,.string y.mod,.string y.name,.slice a4 y.args.length c4] 174);simp only [vaq] at e;exact e
 have Np:Hid _:=FIN;clear FIN;go_wp2_with fail
 go_region_with (go_at_call 299;refine (S2.out _).mono ?_;rintro e w' ⟨rfl,rfl⟩)
 all_goals go_wp2_with fail
 all_goals refine bodyPost_ret (v:=.agg #[qi (7+k),qi 0,.string ⟨#[]⟩,.string ⟨#[]⟩,.slice (some (qa w5.heap.size 0)) 2 2]) (by simp [results,Tryz.results293,go_sem,h0,h1,h2,h3,h4,Dc]) rfl ?_
 all_goals exact Np.out _ rfl
theorem z5z (l:List Tk) (t u:ByteArray):zi0 l [t,u]=if skB l t then some t else if skB l u then some u else none:=by
 unfold zi0;rw [vcr,vcr];cases skB l t<;>cases skB l u<;>rfl
theorem z7r (R cap n:Nat) (a:OA) (ts l:List Tk) (t u:ByteArray) (w:World) (hn:n=w.heap.size) (h:Rd R a cap ts w l) (ht:0<t.size) (hu:0<u.size) :
 qc 195 #[pq R 0,.slice (some (qa n 0)) 2 2] (w.alloc (.cells #[.string t,.string u] 9)) fun e w'=>Keeps R w w'/\((skB l t=false/\skB l u=false/\e = .panicked zbb)\/(skB l t=true/\e = .returned (.string t)/\Rd R a cap ts w' l.tail)\/(skB l t=false/\skB l u=true/\e = .returned (.string u)/\Rd R a cap ts w' l.tail)):=by
 have A0:=h.lt;subst hn;refine (zjf R cap w.heap.size 2 a ts l [t,u] _ (h.alloc _) (by simp) (by omega) (by simp) (fun i hi=>?_) (fun i hi=>?_)).mono ?_
 . obtain rfl | rfl:i=0\/i=1:=by simp at hi;omega
   all_goals simp
 . obtain rfl | rfl:i=0\/i=1:=by simp at hi;omega
   . exact ht
   . exact hu
 . rintro e w' ⟨hk,hr⟩
   refine ⟨((Keeps.refl R w).alloc _).trans hk,?_⟩;rw [z5z] at hr
   cases hs:skB l t<;>cases B7:skB l u<;>rw [hs,B7] at hr<;>simp only [vcu,if_false,if_true,Option.map_none,Option.map_some] at hr
   . rcases hr with ⟨_,rfl⟩ | ⟨x,l',v,hr,_⟩
     . exact Or.inl ⟨rfl,rfl,rfl⟩
     . cases hr
   . rcases hr with ⟨hr,_⟩ | ⟨x,l',v,hr,rfl,rfl,hR⟩
     . cases hr
     . obtain ⟨rfl,rfl⟩:=vbc (vai hr)
       exact Or.inr (Or.inr ⟨rfl,rfl,rfl,hR⟩)
   all_goals
    rcases hr with ⟨hr,_⟩ | ⟨x,l',v,hr,rfl,rfl,hR⟩
    . cases hr
    . obtain ⟨rfl,rfl⟩:=vbc (vai hr)
      exact Or.inr (Or.inl ⟨rfl,rfl,hR⟩)
theorem zxn (R cap:Nat) (a:OA) (ts:List Tk) (f:Nat) (IH:∀ g,g<=f->ExC R cap a ts g) (l:List Tk) (w:World) (h:Rd R a cap ts w l) (hf:3*l.length+2<=f+1) :
 qc 295 #[pq R 0] w (zd8 R a cap ts w (zew (f+1) l) (z7q (w.heap.size<=·))):=by
 have HI:Hid (∀ g,g<=f->ExC R cap a ts g):=IH;have HR:Hid (Rd R a cap ts w l):=h;have CT:=h.lt
 have Jc:l.length<=4096:=by
  obtain ⟨k,_,rfl,_⟩:=h.idx;have:=h.len
  rw [vcl];omega
 clear IH h;go_enter Tryz.func295,Tryz.ntmps295;go_wp2_with fail
 by_cases hs:skB l tRp=true
 . refine (zbl R cap a ts l tRp w (by decide) HR.out hs).mono ?_
   rintro e w1 ⟨rfl,AV,AJ⟩;go_wp2_with fail;go_ret;exact ⟨AJ,Or.inr ⟨[],l.tail,_,by unfold zew;rw [if_pos hs],rfl,⟨none,0,rfl,Or.inl rfl⟩,AV⟩⟩
 have Ew:skB l tRp=false:=by simpa using hs
 refine (zcf R cap a ts l tRp w HR.out Ew).mono ?_;rintro e w1 ⟨rfl,AV,AJ⟩;have BI:Hid (Rd R a cap ts w1 l):=AV;have AX:Hid (Keeps R w w1):=AJ;have Ao:=AJ.size;clear AV AJ;go_wp2_with fail;refine ((HI.out f (vaa _)).expr l w1 BI.out (by omega)).mono ?_;rintro e w2 ⟨AM,⟨hn,rfl⟩ | ⟨x,l2,v,hn,rfl,⟨a2,c2,rfl,AK,AB,hx3⟩,Am⟩⟩
 . exact ⟨rfl,AX.out.trans AM,Or.inl ⟨by unfold zew;rw [if_neg hs,hn],rfl⟩⟩
 have Cg:=zdc _ _ _ _ hn
 have HP:Hid (zew (f+1) l=zh7 f [x] l2):=by show zew (f+1) l=_;unfold zew;rw [if_neg hs,hn]
 have CQ:Hid (Rd R a cap ts w2 l2):=Am;have BQ:Hid (Keeps R w w2):=AX.out.trans AM;have HX:Hid (zat w2 (w1.heap.size<=·) x.ds (ze3 x a2 c2)):=ze4 AK AB hx3;have AA:=AM.size;clear hn Am AM AK AB hx3 hs Ew BI AX;go_wp2_with fail
 go_loopw [3] (fun v wr=>∃ (g:Nat) (A7:List Ex) (l':List Tk),g<=f/\zew (f+1) l=zh7 g A7 l'/\3*l'.length+3<=g/\A7.length+l'.length<=l.length/\Row w.heap.size 174 5 wr v A7.length (zb0 A7)/\Rd R a cap ts wr l'/\Keeps R w wr) (fun _ wr=>zll R ts.length wr)
 case atStart=>
  refine ⟨f,[x],l2,vaa _,HP.out,by omega,by simp;omega,?_,CQ.out.alloc _,BQ.out.alloc _⟩;rw [zns];exact Row.first (cs:=#[qi x.op,qi x.n,.string x.mod,.string x.name,.slice a2 x.args.length c2]) HX.out (fun b _ h=>by omega) (by omega) rfl
 case round=>
  obtain ⟨g,A7,l',hg,hpm,Ai,hacc,Ab,D6,Bf⟩:=hrel;have HG:Hid (zew (f+1) l=zh7 g A7 l'):=hpm;have HO:Hid (Row w.heap.size 174 5 wr u3 A7.length (zb0 A7)):=Ab;have HD:Hid (Rd R a cap ts wr l'):=D6;have HE:Hid (Keeps R w wr):=Bf;have BU:=Bf.size
  obtain ⟨g,rfl⟩:∃ g',g=g'+1:=⟨g - 1,by omega⟩
  clear hpm Ab D6 Bf HP HX;go_wp2_with fail;refine (z7r R cap _ a ts l' z65 tRp _ (by simp) HD.out (by decide) (by decide)).mono ?_;rintro e w3 ⟨At,⟨h1,h2,rfl⟩ | ⟨h1,rfl,Av⟩ | ⟨h1,h2,rfl,Av⟩⟩
  . exact ⟨rfl,HE.out.trans At,Or.inl ⟨by rw [HG.out];unfold zh7;rw [if_neg (by simp [h1]),if_neg (by simp [h2])],rfl⟩⟩
  . have CR:=za0 (by decide) h1
    have BO:=At.size;go_wp2_with fail;refine ((HI.out g (by omega)).expr l'.tail w3 Av (by omega)).mono ?_;rintro e w4 ⟨Ay,⟨hn,rfl⟩ | ⟨y,l4,v,hn,rfl,⟨a4,c4,rfl,AK,AB,hx3⟩,AP⟩⟩
    . exact ⟨rfl,(HE.out.trans At).trans Ay,Or.inl ⟨by rw [HG.out];unfold zh7;rw [if_pos h1,hn],rfl⟩⟩
    have Fs:=zdc _ _ _ _ hn
    have HP:Hid (zew (f+1) l=zh7 g (A7++[y]) l4):=by show zew (f+1) l=_;rw [HG.out];unfold zh7;rw [if_pos h1,hn];cases g<;>rfl
    have DJ:Hid (zat w4 (w3.heap.size<=·) y.ds (ze3 y a4 c4)):=ze4 AK AB hx3;have C2:Hid (Rd R a cap ts w4 l4):=AP;have BJ:Hid (Keeps R w w4):=(HE.out.trans At).trans Ay;have E8:Hid (Row w.heap.size 174 5 w4 u3 A7.length (zb0 A7)):=(HO.out.keeps At CT).keeps Ay CT;have D4:=Ay.size
    have HL:Hid (∀ k,u3.ownBlock=some k->k<w3.heap.size):=fun k hk=>((HO.out.keeps At CT).lt k hk).2
    have Ee:=HD.out.left;clear hn Av AP At Ay AK AB hx3
    go_wp2_with (at_builtin;refine zbn rfl (.tmp 13) (.tmp 16) 172 rfl w.heap.size 174 _ 5 72 Tryz.underlying172 Tryz.infoP80 rfl (by decide) w4 u3 A7.length (zb0 A7) y.ds rfl E8.out _ _ rfl rfl rfl (w3.heap.size<=·) DJ.out ?_ (by omega) (by decide) (by omega) ?_)
    . intro b _ hb
      exact ⟨by omega,fun h=>by have:=HL.out b h;omega⟩
    . intro g5 c5 w5 Br Ar Cc
      have B5:Hid (Row w.heap.size 174 5 w5 (.slice (some (qa g5 0)) (A7.length+1) c5) (A7.length+1) (zb0 A7++y.ds)):=Br;have Bl:Hid (Rd R a cap ts w5 l4):=C2.out.belowOf HR.out Ar;have Ax:Hid (Keeps R w w5):=BJ.out.belowOf Ar;have G0:=Bl.out.left;clear Br Ar E8 C2 BJ DJ;go_wp2_with fail;go_roundw
      case rel=>exact ⟨g,A7++[y],l4,by omega,HP.out,by omega,by simp;omega,by rw [zka,zns,vak];exact B5.out,Bl.out,Ax.out⟩
      case measure=>rw [G0,Ee];omega
  . have HP:Hid (zew (f+1) l=some (A7,l'.tail)):=by show zew (f+1) l=_;rw [HG.out];unfold zh7;rw [if_neg (by simp [h1]),if_pos h2]
    have EN:Hid (Row w.heap.size 174 5 w3 u3 A7.length (zb0 A7)):=HO.out.keeps At CT;go_wp2_with fail;go_ret;exact ⟨HE.out.trans At,Or.inr ⟨A7,l'.tail,_,HP.out,rfl,EN.out.slice,Av⟩⟩
set_option maxHeartbeats 3200000
abbrev zca:Obj:=.cells #[qi 0,qi 0,.string ⟨#[]⟩,.string ⟨#[]⟩,qs] 174 (0,0)
theorem zmc {R cap:Nat} {a:OA} {ts l l':List Tk} {w w1:World} {r:Option (Ex × List Tk)} {x:Ex} {a1:OA} {c1:Nat} (h0:Rd R a cap ts w l) (hr:r=some (x,l')) (hk:Keeps R w w1) (D6:Rd R a cap ts w1 l')
 (AK:x.mod.size<=maxLen) (AB:x.name.size<=maxLen) {lo:Nat} (hx:EAt w1 (lo<=·) a1 x.args.length (zb0 x.args)) (CN:w.heap.size<lo) :
 zd8 R a cap ts w r (zgf (w.heap.size<=·)) (.returned (.agg #[qi x.op,qi x.n,.string x.mod,.string x.name,.slice a1 x.args.length c1])) (set5 w1 w.heap.size (qi x.op) (qi x.n) (.string x.mod) (.string x.name) (.slice a1 x.args.length c1)):=by
 refine ⟨hk.set5 (vaa _) _ _ _ _ _,Or.inr ⟨x,l',_,hr,rfl,⟨a1,c1,rfl,AK,AB,?_⟩,D6.set5 h0 (vaa _) _ _ _ _ _⟩⟩;exact hx.moves (((zad.refl w1 (lo<=·)).set5 (by intro b _ hb;omega) _ _ _ _ _).to (by omega))
theorem z3t {R cap:Nat} {a:OA} {ts l l':List Tk} {w w1:World} {r:Option (Ex × List Tk)} {op n:Int} {mod name:ByteArray} {y:Ex} {a1:OA} {c1:Nat} (h0:Rd R a cap ts w l) (hr:r=some (.mk op n mod name [y],l')) (hk:Keeps R w w1) (D6:Rd R a cap ts w1 l')
 (AK:mod.size<=maxLen) (AB:name.size<=maxLen) {lo:Nat} (Da:y.mod.size<=maxLen) (CW:y.name.size<=maxLen) (hy:EAt w1 (lo<=·) a1 y.args.length (zb0 y.args)) (CN:w.heap.size<lo) (Qg:lo<=w1.heap.size) :
 zd8 R a cap ts w r (zgf (w.heap.size<=·)) (.returned (.agg #[qi op,qi n,.string mod,.string name,.slice (some (qa w1.heap.size 0)) 1 1])) ((set5 w1 w.heap.size (qi op) (qi n) (.string mod) (.string name) (.slice (some (qa w1.heap.size 0)) 1 1)).alloc (kzE y.op y.n y.mod y.name a1 y.args.length c1)):=by
 refine ⟨(hk.set5 (vaa _) _ _ _ _ _).alloc _,Or.inr ⟨.mk op n mod name [y],l',_,hr,rfl,⟨_,_,rfl,AK,AB,?_⟩,(D6.set5 h0 (vaa _) _ _ _ _ _).alloc _⟩⟩;refine zj2 (t:=174) (cap:=c1) Da CW hy ((((zad.refl w1 (lo<=·)).set5 (b:=w.heap.size) (by intro b _ hb;omega) _ _ _ _ _).alloc _).to (by omega)) ?_ (by omega);have e:=heap_newP (set5 w1 w.heap.size (qi op) (qi n) (.string mod) (.string name) (.slice (some (qa w1.heap.size 0)) 1 1)) (kzE y.op y.n y.mod y.name a1 y.args.length c1);simp only [vaq] at e;exact e
theorem zxo (R cap:Nat) (a:OA) (ts:List Tk) (f:Nat) (IH:ExC R cap a ts f) (l:List Tk) (w:World) (h:Rd R a cap ts w l) (hf:3*l.length+1<=f+1) :
 qc 283 #[pq R 0] w (zd8 R a cap ts w (zbo (f+1) l) (zgf (w.heap.size<=·))):=by
 have HI:Hid (ExC R cap a ts f):=IH;have HR:Hid (Rd R a cap ts w l):=h;have CT:=h.lt;have Mk:=z2j (hd l).kind (hd l).n (hd l).text;clear IH h;go_enter Tryz.func283,Tryz.ntmps283;go_wp2_with fail;refine (zpn R cap a ts l _ (HR.out.alloc _)).mono ?_;rintro e w1 ⟨rfl,A5⟩;have AV:Hid (Rd R a cap ts w1 l):=(HR.out.alloc _).later A5;have AJ:Hid (Keeps R w w1):=((Keeps.refl R w).alloc _).later A5;have A8:Hid (w1.heap[w.heap.size]? = some zca):=(A5.block w.heap.size (by simp)).trans (heap_newP _ _);have Ao:=A5.size;simp at Ao;clear A5
 by_cases hk:(hd l).kind=2
 . have HP:Hid (zbo (f+1) l=some (.mk 1 (hd l).n ⟨#[]⟩ ⟨#[]⟩ [],l.tail)):=by show zbo (f+1) l=_;unfold zbo;rw [if_pos hk]
   have HQ:Hid (pNum l=some ((hd l).n,l.tail)):=by show pNum l=_;unfold pNum;rw [if_pos hk]
   have QC:=z2j 2 (hd l).n (hd l).text;go_wp2_with fail;refine (zre R cap a ts l w1 AV.out).mono ?_;rintro e w2 ⟨AM,⟨hn,rfl⟩ | ⟨n,l2,v,hn,rfl,rfl,Am⟩⟩
   . rw [HQ.out] at hn;cases hn
   rw [HQ.out] at hn;obtain ⟨rfl,rfl⟩:=vbc (vai hn);have Ad:Hid (w2.heap[w.heap.size]? = some zca):=(AM.block w.heap.size (by omega) (by omega)).trans A8.out;obtain ⟨h0,h1,h2,h3,h4,h5⟩:=zaa Ad.out;have AA:=AM.size
   have Dc:w.heap.size<w2.heap.size:=by omega
   have HF:Hid (zd8 R a cap ts w (zbo (f+1) l) (zgf (w.heap.size<=·)) (.returned (.agg #[qi 1,qi (hd l).n,.string ⟨#[]⟩,.string ⟨#[]⟩,qs])) (set5 w2 w.heap.size (qi 1) (qi (hd l).n) (.string ⟨#[]⟩) (.string ⟨#[]⟩) (qs))):=
    zmc (x:=.mk 1 (hd l).n ⟨#[]⟩ ⟨#[]⟩ []) HR.out HP.out (AJ.out.trans AM) Am (vae _) (vae _) (lo:=w2.heap.size) (Or.inl rfl) Dc
   clear hn Am AM;go_wp2_with fail;refine bodyPost_ret (v:=.agg #[qi 1,qi (hd l).n,.string ⟨#[]⟩,.string ⟨#[]⟩,qs]) (by simp [results,Tryz.results283,go_sem,h0,h1,h2,h3,h4]) rfl HF.out
 go_wp2_with fail
 by_cases B7:skB l tIn=true
 . refine (zbl R cap a ts l tIn w1 (by decide) AV.out B7).mono ?_
   rintro e w2 ⟨rfl,Am,AM⟩;have Ad:Hid (w2.heap[w.heap.size]? = some zca):=(AM.block w.heap.size (by omega) (by omega)).trans A8.out;obtain ⟨h0,h1,h2,h3,h4,h5⟩:=zaa Ad.out;have AA:=AM.size
   have Dc:w.heap.size<w2.heap.size:=by omega
   have HF:Hid (zd8 R a cap ts w (zbo (f+1) l) (zgf (w.heap.size<=·)) (.returned (.agg #[qi 2,qi 0,.string ⟨#[]⟩,.string ⟨#[]⟩,qs])) (set5 w2 w.heap.size (qi 2) (qi 0) (.string ⟨#[]⟩) (.string ⟨#[]⟩) (qs))):=
    zmc (x:=.mk 2 0 ⟨#[]⟩ ⟨#[]⟩ []) HR.out (by unfold zbo;rw [if_neg hk,if_pos B7]) (AJ.out.trans AM) Am (vae _) (vae _) (lo:=w2.heap.size) (Or.inl rfl) Dc
   clear Am AM;go_wp2_with fail;refine bodyPost_ret (v:=.agg #[qi 2,qi 0,.string ⟨#[]⟩,.string ⟨#[]⟩,qs]) (by simp [results,Tryz.results283,go_sem,h0,h1,h2,h3,h4]) rfl HF.out
 refine (zcf R cap a ts l tIn w1 AV.out (by simpa using B7)).mono ?_;rintro e w2 ⟨rfl,Am,AM⟩;have CQ:Hid (Rd R a cap ts w2 l):=Am;have BQ:Hid (Keeps R w w2):=AJ.out.trans AM;have Ad:Hid (w2.heap[w.heap.size]? = some zca):=(AM.block w.heap.size (by omega) (by omega)).trans A8.out;have AA:=AM.size;clear Am AM AV AJ A8;go_wp2_with fail
 by_cases Cw:skB l z6e=true
 . have CR:=za0 (by decide) Cw
   refine (zbl R cap a ts l z6e w2 (by decide) CQ.out Cw).mono ?_;rintro e w3 ⟨rfl,Av,At⟩;have BO:=At.size;have Af:Hid (w3.heap[w.heap.size]? = some zca):=(At.block w.heap.size (by omega) (by omega)).trans Ad.out;go_wp2_with fail;refine (HI.out.expr l.tail w3 Av (by omega)).mono ?_;rintro e w4 ⟨Ay,⟨hn,rfl⟩ | ⟨y,l4,v,hn,rfl,⟨a4,c4,rfl,Da,CW,DQ⟩,AP⟩⟩
   . exact ⟨rfl,(BQ.out.trans At).trans Ay,Or.inl ⟨by unfold zbo;rw [if_neg hk,if_neg B7,if_pos Cw,hn],rfl⟩⟩
   have An:Hid (w4.heap[w.heap.size]? = some zca):=(Ay.block w.heap.size (by omega) (by omega)).trans Af.out;obtain ⟨h0,h1,h2,h3,h4,h5⟩:=zaa An.out;have D4:=Ay.size
   have Dc:w.heap.size<w4.heap.size:=by omega
   have HF:Hid (zd8 R a cap ts w (zbo (f+1) l) (zgf (w.heap.size<=·)) (.returned (.agg #[qi 6,qi 0,.string ⟨#[]⟩,.string ⟨#[]⟩,.slice (some (qa w4.heap.size 0)) 1 1])) ((set5 w4 w.heap.size (qi 6) (qi 0) (.string ⟨#[]⟩) (.string ⟨#[]⟩) (.slice (some (qa w4.heap.size 0)) 1 1)).alloc (kzE y.op y.n y.mod y.name a4 y.args.length c4))):=
    z3t HR.out (by unfold zbo;rw [if_neg hk,if_neg B7,if_pos Cw,hn]) ((BQ.out.trans At).trans Ay) AP (vae _) (vae _) Da CW DQ (by omega) D4
   clear hn Av AP At Ay Da CW DQ;go_wp2_with fail;refine bodyPost_ret (v:=.agg #[qi 6,qi 0,.string ⟨#[]⟩,.string ⟨#[]⟩,.slice (some (qa w4.heap.size 0)) 1 1]) (by simp [results,Tryz.results283,go_sem,h0,h1,h2,h3,h4,Dc]) rfl HF.out
 refine (zcf R cap a ts l z6e w2 CQ.out (by simpa using Cw)).mono ?_;rintro e w3 ⟨rfl,Av,At⟩;have CD:Hid (Rd R a cap ts w3 l):=Av;have C4:Hid (Keeps R w w3):=BQ.out.trans At;have Af:Hid (w3.heap[w.heap.size]? = some zca):=(At.block w.heap.size (by omega) (by omega)).trans Ad.out;have BO:=At.size;clear Av At CQ BQ Ad;go_wp2_with fail
 by_cases D5:skB l tLp=true
 . have Fs:=za0 (by decide) D5
   refine (zbl R cap a ts l tLp w3 (by decide) CD.out D5).mono ?_;rintro e w4 ⟨rfl,AP,Ay⟩;have D4:=Ay.size;have An:Hid (w4.heap[w.heap.size]? = some zca):=(Ay.block w.heap.size (by omega) (by omega)).trans Af.out;go_wp2_with fail;refine (HI.out.pair l.tail w4 AP (by omega)).mono ?_;rintro e w5 ⟨Ax,⟨hn,rfl⟩ | ⟨y,l5,v,hn,rfl,⟨a5,c5,rfl,Da,CW,DQ⟩,Bl⟩⟩
   . exact ⟨rfl,(C4.out.trans Ay).trans Ax,Or.inl ⟨by unfold zbo;rw [if_neg hk,if_neg B7,if_neg Cw,if_pos D5,hn],rfl⟩⟩
   have Ar:Hid (w5.heap[w.heap.size]? = some zca):=(Ax.block w.heap.size (by omega) (by omega)).trans An.out;obtain ⟨h0,h1,h2,h3,h4,h5⟩:=zaa Ar.out;have Cc:=Ax.size
   have HF:Hid (zd8 R a cap ts w (zbo (f+1) l) (zgf (w.heap.size<=·)) (.returned (.agg #[qi y.op,qi y.n,.string y.mod,.string y.name,.slice a5 y.args.length c5])) (set5 w5 w.heap.size (qi y.op) (qi y.n) (.string y.mod) (.string y.name) (.slice a5 y.args.length c5))):=
    zmc (x:=y) HR.out (by unfold zbo;rw [if_neg hk,if_neg B7,if_neg Cw,if_pos D5,hn]) ((C4.out.trans Ay).trans Ax) Bl Da CW (lo:=w4.heap.size) DQ (by omega)
   clear hn AP Bl Ay Ax Da CW DQ;go_wp2_with fail;refine bodyPost_ret (v:=.agg #[qi y.op,qi y.n,.string y.mod,.string y.name,.slice a5 y.args.length c5]) (by simp [results,Tryz.results283,go_sem,h0,h1,h2,h3,h4]) rfl HF.out
 refine (zcf R cap a ts l tLp w3 CD.out (by simpa using D5)).mono ?_;rintro e w4 ⟨rfl,AP,Ay⟩;have C2:Hid (Rd R a cap ts w4 l):=AP;have BJ:Hid (Keeps R w w4):=C4.out.trans Ay;have An:Hid (w4.heap[w.heap.size]? = some zca):=(Ay.block w.heap.size (by omega) (by omega)).trans Af.out;have D4:=Ay.size
 have N6:Hid (zbo (f+1) l=match zzo l with
  | none=>none
  | some ((m,n),l1)=>
    if skB l1 tLs then (match zbo f l1.tail with | none=>none | some (x,l2)=>if skB l2 tRs then some (.mk 4 0 m n [x],l2.tail) else none)
    else if skB l1 tLp then (match zew f l1.tail with | none=>none | some (xs,l2)=>some (.mk 5 0 m n xs,l2))
    else some (.mk 3 0 m n [],l1)):=by
  show zbo (f+1) l=_
  conv=>lhs;unfold zbo
  rw [if_neg hk,if_neg B7,if_neg Cw,if_neg D5]
  rfl
 clear AP Ay CD C4 Af hk B7 Cw D5;go_wp2_with fail;refine (zxi R cap a ts l _ (C2.out.alloc _)).mono ?_;rintro e w5 ⟨Ax,⟨hn,rfl⟩ | ⟨⟨m,n⟩,l5,v,hn,rfl,⟨rfl,hm,CX⟩,Bl⟩⟩
 . exact ⟨rfl,(BJ.out.alloc _).trans Ax,Or.inl ⟨by rw [N6.out,hn],rfl⟩⟩
 have G0:=zrs hn
 have Iu:Hid (zbo (f+1) l=if skB l5 tLs then (match zbo f l5.tail with | none=>none | some (x,l2)=>if skB l2 tRs then some (.mk 4 0 m n [x],l2.tail) else none)
  else if skB l5 tLp then (match zew f l5.tail with | none=>none | some (xs,l2)=>some (.mk 5 0 m n xs,l2))
  else some (.mk 3 0 m n [],l5)):=by
  show zbo (f+1) l=_;rw [N6.out,hn]
 have Dn:Hid (Rd R a cap ts w5 l5):=Bl;have Cv:Hid (Keeps R w w5):=(BJ.out.alloc _).trans Ax;have Ar:Hid (w5.heap[w.heap.size]? = some zca):=(Ax.block w.heap.size (by simp;omega) (by omega)).trans (zab An.out);have BX:Hid (w5.heap[w4.heap.size]? = some (.cells #[qi 3,qi 0,.string ⟨#[]⟩,.string ⟨#[]⟩,qs] 174 (0,0))):=(Ax.block w4.heap.size (by simp) (by omega)).trans (heap_newP _ _);have Cc:=Ax.size;simp at Cc;obtain ⟨h0,h1,h2,h3,h4,h5⟩:=zaa BX.out;clear hn Bl Ax N6 C2 An BJ;have Hj:Hid (Rd R a cap ts ((w5.setCell (qa w4.heap.size 2) (.string m)).setCell (qa w4.heap.size 3) (.string n)) l5):=(Dn.out.setAbove HR.out (by show _<=w4.heap.size;omega) _).setAbove HR.out (by show _<=w4.heap.size;omega) _;have Eo:Hid (Keeps R w ((w5.setCell (qa w4.heap.size 2) (.string m)).setCell (qa w4.heap.size 3) (.string n))):=(Cv.out.set (by show _<=w4.heap.size;omega) _).set (by show _<=w4.heap.size;omega) _
 have Cb:Hid (((w5.setCell (qa w4.heap.size 2) (.string m)).setCell (qa w4.heap.size 3) (.string n)).heap[w.heap.size]? = some zca):=(heap_set_ne (by show w.heap.size≠w4.heap.size;omega) _).trans ((heap_set_ne (by show w.heap.size≠w4.heap.size;omega) _).trans Ar.out);have I1:Hid (((w5.setCell (qa w4.heap.size 2) (.string m)).setCell (qa w4.heap.size 3) (.string n)).heap[w4.heap.size]? = some (.cells #[qi 3,qi 0,.string m,.string n,qs] 174 (0,0))):=heap_set (heap_set BX.out _) _
 have I9:((w5.setCell (qa w4.heap.size 2) (.string m)).setCell (qa w4.heap.size 3) (.string n)).heap.size=w5.heap.size:=by simp only [vaq]
 clear Dn Cv Ar;go_wp2_with fail;generalize (w5.setCell (qa w4.heap.size 2) (.string m)).setCell (qa w4.heap.size 3) (.string n)=w6 at *;clear h0 h1 h2 h3 h4 h5 BX
 by_cases Fh:skB l5 tLs=true
 . have Of:=za0 (by decide) Fh
   refine (zbl R cap a ts l5 tLs w6 (by decide) Hj.out Fh).mono ?_;rintro e w7 ⟨rfl,HR7,CE⟩;have IW:=CE.size;have Bw:Hid (w7.heap[w.heap.size]? = some zca):=(CE.block w.heap.size (by omega) (by omega)).trans Cb.out;have F9:Hid (w7.heap[w4.heap.size]? = some (.cells #[qi 3,qi 0,.string m,.string n,qs] 174 (0,0))):=(CE.block w4.heap.size (by omega) (by omega)).trans I1.out;obtain ⟨h0,h1,h2,h3,h4,h5⟩:=zaa F9.out;have DL:Hid (Rd R a cap ts (w7.setCell (qa w4.heap.size 0) (qi 4)) l5.tail):=HR7.setAbove HR.out (by show _<=w4.heap.size;omega) _;have BP:Hid (Keeps R w (w7.setCell (qa w4.heap.size 0) (qi 4))):=(Eo.out.trans CE).set (by show _<=w4.heap.size;omega) _;have B6:Hid ((w7.setCell (qa w4.heap.size 0) (qi 4)).heap[w.heap.size]? = some zca):=(heap_set_ne (by show w.heap.size≠w4.heap.size;omega) _).trans Bw.out
   have D3:Hid ((w7.setCell (qa w4.heap.size 0) (qi 4)).heap[w4.heap.size]? = some (.cells #[qi 4,qi 0,.string m,.string n,qs] 174 (0,0))):=heap_set F9.out _
   have IV:(w7.setCell (qa w4.heap.size 0) (qi 4)).heap.size=w7.heap.size:=by simp only [vaq]
   clear HR7 CE Bw Hj Eo Cb I1;go_wp2_with fail;generalize w7.setCell (qa w4.heap.size 0) (qi 4)=w8 at *;clear h0 h1 h2 h3 h4 h5 F9;refine (HI.out.expr l5.tail w8 DL.out (by omega)).mono ?_;rintro e w9 ⟨FN,⟨hn,rfl⟩ | ⟨y,l9,v,hn,rfl,⟨a9,c9,rfl,Da,CW,DQ⟩,L9⟩⟩
   . exact ⟨rfl,BP.out.trans FN,Or.inl ⟨by rw [Iu.out,if_pos Fh,hn],rfl⟩⟩
   have Gs:=FN.size;have BT:Hid (w9.heap[w.heap.size]? = some zca):=(FN.block w.heap.size (by omega) (by omega)).trans B6.out;have IK:Hid (w9.heap[w4.heap.size]? = some (.cells #[qi 4,qi 0,.string m,.string n,qs] 174 (0,0))):=(FN.block w4.heap.size (by omega) (by omega)).trans D3.out;obtain ⟨h0,h1,h2,h3,h4,h5⟩:=zaa IK.out
   have O4:w4.heap.size<w9.heap.size:=by omega
   have Iy:Hid (zbo f l5.tail=some (y,l9)):=hn
   have GZ:Hid (y.mod.size<=maxLen/\y.name.size<=maxLen/\EAt w9 (w8.heap.size<=·) a9 y.args.length (zb0 y.args)):=⟨Da,CW,DQ⟩
   have N1:Hid (Rd R a cap ts w9 l9):=L9;have Kg:Hid (Keeps R w w9):=BP.out.trans FN;clear hn L9 FN Da CW DQ B6 D3 DL BP;go_wp2_with fail;refine (zlk R cap _ a ts l9 tRs _ (by simp) ((N1.out.setAbove HR.out (by show _<=w4.heap.size;omega) _).alloc _) (by decide)).mono ?_;rintro e DP ⟨BK,⟨FU,rfl⟩ | ⟨FU,rfl,HR10⟩⟩
   . exact ⟨rfl,((Kg.out.set (by show _<=w4.heap.size;omega) _).alloc _).trans BK,Or.inl ⟨by rw [Iu.out,if_pos Fh,Iy.out];simp [FU],rfl⟩⟩
   have HP:Hid (zbo (f+1) l=some (.mk 4 0 m n [y],l9.tail)):=by show zbo (f+1) l=_;rw [Iu.out,if_pos Fh,Iy.out];simp [FU]
   have Gt:=BK.size;simp at Gt;have ET:Hid (DP.heap[w.heap.size]? = some zca):=(BK.block w.heap.size (by simp;omega) (by omega)).trans (zab ((heap_set_ne (by show w.heap.size≠w4.heap.size;omega) _).trans BT.out));have I2:Hid (DP.heap[w4.heap.size]? = some (.cells #[qi 4,qi 0,.string m,.string n,.slice (some (qa w9.heap.size 0)) 1 1] 174 (0,0))):=(BK.block w4.heap.size (by simp;omega) (by omega)).trans (zab (heap_set IK.out _))
   have Ny:Hid (DP.heap[w9.heap.size]? = some (.cells #[qi y.op,qi y.n,.string y.mod,.string y.name,.slice a9 y.args.length c9] 174 (0,0))):=(BK.block w9.heap.size (by simp) (by omega)).trans (by
    have e:=heap_newP (w9.setCell (qa w4.heap.size 4) (.slice (some (qa w9.heap.size 0)) 1 1)) (kzE y.op y.n y.mod y.name a9 y.args.length c9);simp only [vaq] at e
    exact e)
   have K8:zad w9 (w8.heap.size<=·) DP (w8.heap.size<=·):=(((zad.refl w9 _).set (by intro b _ hb;show b≠w4.heap.size;omega) _).alloc _).keeps BK (by intro b _ hb;omega)
   have HF:Hid (zd8 R a cap ts w (zbo (f+1) l) (zgf (w.heap.size<=·)) (.returned (.agg #[qi 4,qi 0,.string m,.string n,.slice (some (qa w9.heap.size 0)) 1 1])) (set5 DP w.heap.size (qi 4) (qi 0) (.string m) (.string n) (.slice (some (qa w9.heap.size 0)) 1 1))):=
    zmc (x:=.mk 4 0 m n [y]) HR.out HP.out (((Kg.out.set (by show _<=w4.heap.size;omega) _).alloc _).trans BK) HR10 hm CX (lo:=w8.heap.size) (zj2 GZ.out.1 GZ.out.2.1 GZ.out.2.2 K8 Ny.out (by omega)) (by omega)
   obtain ⟨h0,h1,h2,h3,h4,h5⟩:=zaa ET.out;obtain ⟨g0,g1,g2,g3,g4,g5⟩:=zaa I2.out;clear BK HR10 K8;go_wp2_with fail;refine bodyPost_ret (v:=.agg #[qi 4,qi 0,.string m,.string n,.slice (some (qa w9.heap.size 0)) 1 1]) (by simp [results,Tryz.results283,go_sem,h0,h1,h2,h3,h4]) rfl HF.out
 refine (zcf R cap a ts l5 tLs w6 Hj.out (by simpa using Fh)).mono ?_;rintro e w7 ⟨rfl,HR7,CE⟩;have IW:=CE.size;have Dm:Hid (Rd R a cap ts w7 l5):=HR7;have Do:Hid (Keeps R w w7):=Eo.out.trans CE;have Bw:Hid (w7.heap[w.heap.size]? = some zca):=(CE.block w.heap.size (by omega) (by omega)).trans Cb.out;have F9:Hid (w7.heap[w4.heap.size]? = some (.cells #[qi 3,qi 0,.string m,.string n,qs] 174 (0,0))):=(CE.block w4.heap.size (by omega) (by omega)).trans I1.out;clear HR7 CE Hj Eo Cb I1;go_wp2_with fail
 by_cases Ia:skB l5 tLp=true
 . have T4:=za0 (by decide) Ia
   refine (zbl R cap a ts l5 tLp w7 (by decide) Dm.out Ia).mono ?_;rintro e w8 ⟨rfl,DL,BP⟩;have IV:=BP.size;have B6:Hid (w8.heap[w.heap.size]? = some zca):=(BP.block w.heap.size (by omega) (by omega)).trans Bw.out;have D3:Hid (w8.heap[w4.heap.size]? = some (.cells #[qi 3,qi 0,.string m,.string n,qs] 174 (0,0))):=(BP.block w4.heap.size (by omega) (by omega)).trans F9.out;obtain ⟨h0,h1,h2,h3,h4,h5⟩:=zaa D3.out;have L9:Hid (Rd R a cap ts (w8.setCell (qa w4.heap.size 0) (qi 5)) l5.tail):=DL.setAbove HR.out (by show _<=w4.heap.size;omega) _;have FN:Hid (Keeps R w (w8.setCell (qa w4.heap.size 0) (qi 5))):=(Do.out.trans BP).set (by show _<=w4.heap.size;omega) _;have BT:Hid ((w8.setCell (qa w4.heap.size 0) (qi 5)).heap[w.heap.size]? = some zca):=(heap_set_ne (by show w.heap.size≠w4.heap.size;omega) _).trans B6.out
   have IK:Hid ((w8.setCell (qa w4.heap.size 0) (qi 5)).heap[w4.heap.size]? = some (.cells #[qi 5,qi 0,.string m,.string n,qs] 174 (0,0))):=heap_set D3.out _
   have Gs:(w8.setCell (qa w4.heap.size 0) (qi 5)).heap.size=w8.heap.size:=by simp only [vaq]
   clear DL BP B6 Dm Do Bw F9;go_wp2_with fail;generalize w8.setCell (qa w4.heap.size 0) (qi 5)=w9 at *;clear h0 h1 h2 h3 h4 h5 D3;refine (HI.out.args l5.tail w9 L9.out (by omega)).mono ?_;rintro e DP ⟨BK,⟨hn,rfl⟩ | ⟨xs,l10,v,hn,rfl,⟨a10,c10,rfl,hx10⟩,HR10⟩⟩
   . exact ⟨rfl,FN.out.trans BK,Or.inl ⟨by rw [Iu.out,if_neg Fh,if_pos Ia,hn],rfl⟩⟩
   have Gt:=BK.size
   have HP:Hid (zbo (f+1) l=some (.mk 5 0 m n xs,l10)):=by show zbo (f+1) l=_;rw [Iu.out,if_neg Fh,if_pos Ia,hn]
   have ET:Hid (DP.heap[w.heap.size]? = some zca):=(BK.block w.heap.size (by omega) (by omega)).trans BT.out;have I2:Hid (DP.heap[w4.heap.size]? = some (.cells #[qi 5,qi 0,.string m,.string n,qs] 174 (0,0))):=(BK.block w4.heap.size (by omega) (by omega)).trans IK.out
   have HF:Hid (zd8 R a cap ts w (zbo (f+1) l) (zgf (w.heap.size<=·)) (.returned (.agg #[qi 5,qi 0,.string m,.string n,.slice a10 xs.length c10])) (set5 (DP.setCell (qa w4.heap.size 4) (.slice a10 xs.length c10)) w.heap.size (qi 5) (qi 0) (.string m) (.string n) (.slice a10 xs.length c10))):=
    zmc (x:=.mk 5 0 m n xs) HR.out HP.out ((FN.out.trans BK).set (by show _<=w4.heap.size;omega) _) (HR10.setAbove HR.out (by show _<=w4.heap.size;omega) _) hm CX (lo:=w9.heap.size) (hx10.moves ((zad.refl DP _).set (by intro b _ hb;show b≠w4.heap.size;omega) _)) (by omega)
   obtain ⟨h0,h1,h2,h3,h4,h5⟩:=zaa ET.out;obtain ⟨g0,g1,g2,g3,g4,g5⟩:=zaa I2.out
   have Aj:w.heap.size≠w4.heap.size:=by omega
   clear BK HR10 hn;go_wp2_with fail;refine bodyPost_ret (v:=.agg #[qi 5,qi 0,.string m,.string n,.slice a10 xs.length c10]) (by simp [results,Tryz.results283,go_sem,h0,h1,h2,h3,h4]) rfl HF.out
 refine (zcf R cap a ts l5 tLp w7 Dm.out (by simpa using Ia)).mono ?_;rintro e w8 ⟨rfl,DL,BP⟩;have IV:=BP.size;have B6:Hid (w8.heap[w.heap.size]? = some zca):=(BP.block w.heap.size (by omega) (by omega)).trans Bw.out;have D3:Hid (w8.heap[w4.heap.size]? = some (.cells #[qi 3,qi 0,.string m,.string n,qs] 174 (0,0))):=(BP.block w4.heap.size (by omega) (by omega)).trans F9.out
 have HF:Hid (zd8 R a cap ts w (zbo (f+1) l) (zgf (w.heap.size<=·)) (.returned (.agg #[qi 3,qi 0,.string m,.string n,qs])) (set5 w8 w.heap.size (qi 3) (qi 0) (.string m) (.string n) (qs))):=
  zmc (x:=.mk 3 0 m n []) HR.out (by rw [Iu.out,if_neg Fh,if_neg Ia]) (Do.out.trans BP) DL hm CX (lo:=w8.heap.size) (Or.inl rfl) (by omega)
 obtain ⟨h0,h1,h2,h3,h4,h5⟩:=zaa B6.out;obtain ⟨g0,g1,g2,g3,g4,g5⟩:=zaa D3.out;clear BP DL;go_wp2_with fail;refine bodyPost_ret (v:=.agg #[qi 3,qi 0,.string m,.string n,qs]) (by simp [results,Tryz.results283,go_sem,h0,h1,h2,h3,h4]) rfl HF.out
theorem z2k (R cap:Nat) (a:OA) (ts:List Tk):∀ f,ExC R cap a ts f:=by
 intro f
 induction f using Nat.strongRecOn with
 | ind f ih=>
   cases f with
   | zero=>exact ⟨fun _ _ _ h=>by omega,fun _ _ _ h=>by omega,fun _ _ _ h=>by omega⟩
   | succ f=>
     exact ⟨fun l w h hf=>zxo R cap a ts f (ih f (by omega)) l w h hf,fun l w h hf=>zxm R cap a ts f (ih f (by omega)) l w h hf,fun l w h hf=>zxn R cap a ts f (fun g hg=>ih g (by omega)) l w h hf⟩
theorem zec (R cap:Nat) (a:OA) (ts l:List Tk) (w:World) (h:Rd R a cap ts w l) :
 qc 283 #[pq R 0] w (zd8 R a cap ts w (pX l) (zgf (w.heap.size<=·))):=(z2k R cap a ts _).expr l w h (by omega)
theorem z0j (R cap:Nat) (a:OA) (ts l:List Tk) (w:World) (h:Rd R a cap ts w l) :
 qc 295 #[pq R 0] w (zd8 R a cap ts w (pAs l) (z7q (w.heap.size<=·))):=(z2k R cap a ts _).args l w h (by omega)
end Go.Proofs.YtndkhgakfodldaaGreatDoor

namespace Go.Proofs.YtndkhgakfodldaaGreatDoor
set_option maxRecDepth 100000
set_option maxHeartbeats 3200000
open Go.RowKit Go.Shelf
section
variable {P:Program} {ops:Array Oper} {o:Oper} {a:Act} {w:World} {K:Act->World->Prop} {Q:Exit->Act->World->Prop} {E:Prop}
theorem zmd (f:FuncId) (x:Operand) (ty:TypeId) (ho:o.op = .call { callee:=.value (.func f),args:=#[x],argTypes:=#[ty] })
 (C7:Enters P f) (v:Value) (hx:a.eval x=v):(execOp a.eval o).run P w = .ok (.enter f #[v]) w:=by
 have h:=C7 #[v] w;have hf:a.eval (.func f) = .func (.func f) #[] #[]:=rfl;simp [execOp,ho,resolve,invoke,hx,hf,h,Deferred.ofValue]
theorem zf6 (BC:o.guard=none) (f:FuncId) (x:Operand) (ty:TypeId) (ho:o.op = .call { callee:=.value (.func f),args:=#[x],argTypes:=#[ty] })
 (C7:Enters P f) (v:Value) (hx:a.eval x=v) {R:Value->World->Prop} (hC:Calls P f #[v] w fun e w'=>∃ u,e = .returned u/\R u w')
 (h:∀ u w',R u w'->K (a.put o.dst u) w'):if Region.wanted o (yielded ops a.tmps)=true then Oper.wp P o a w K Q else E:=by
 have hw:Region.wanted o (yielded ops a.tmps)=true:=by simp [Region.wanted,BC]
 rw [if_pos hw];unfold Oper.wp;rw [zmd f x ty ho C7 v hx,vds];refine hC.mono ?_;rintro e w' ⟨u,rfl,hR⟩;exact h u w' hR
theorem zme (BC:o.guard=none) (f:FuncId) (x:Operand) (ty:TypeId) (ho:o.op = .call { callee:=.value (.func f),args:=#[x],argTypes:=#[ty] })
 (C7:Enters P f) (v:Value) (hx:a.eval x=v) (c:List PanicEntry) {R:World->Prop} (hC:Calls P f #[v] w fun e w'=>e = .panicked c/\R w')
 (h:∀ w',R w'->Q (.panic c) a w'):if Region.wanted o (yielded ops a.tmps)=true then Oper.wp P o a w K Q else E:=by
 have hw:Region.wanted o (yielded ops a.tmps)=true:=by simp [Region.wanted,BC]
 rw [if_pos hw];unfold Oper.wp;rw [zmd f x ty ho C7 v hx,vds];refine hC.mono ?_;rintro e w' ⟨rfl,hR⟩;exact h w' hR
end
def zfw (A:Nat->Prop) (s:St) (w:World) (v:Value):Prop:=∃ a1 c1 a2 c2 a3 c3,v = .agg #[qi s.op,.string s.mod,.string s.name,.slice a1 s.args.length c1,.slice a2 s.body.length c2,.slice a3 s.other.length c3]/\s.mod.size<=maxLen/\s.name.size<=maxLen/\
 EAt w A a1 s.args.length (zb0 s.args)/\EAt w A a2 s.body.length (zby s.body)/\EAt w A a3 s.other.length (zby s.other)
def z7s (A:Nat->Prop) (xs:List St) (w:World) (v:Value):Prop:=∃ a cap,v = .slice a xs.length cap/\EAt w A a xs.length (zby xs)
def zxp (s:St) (a1:OA) (c1:Nat) (a2:OA) (c2:Nat) (a3:OA) (c3:Nat):List Value:=[qi s.op,.string s.mod,.string s.name,.slice a1 s.args.length c1,.slice a2 s.body.length c2,.slice a3 s.other.length c3]
theorem z0k {A:Nat->Prop} {s:St} {w:World} {a1 a2 a3:OA} {c1 c2 c3:Nat} (h1:s.mod.size<=maxLen) (h2:s.name.size<=maxLen) (h3:EAt w A a1 s.args.length (zb0 s.args)) (h4:EAt w A a2 s.body.length (zby s.body)) (h5:EAt w A a3 s.other.length (zby s.other)):zat w A s.ds (zxp s a1 c1 a2 c2 a3 c3):=by
 cases s
 unfold St.ds;exact .cons zqp (.cons (z38 h1) (.cons (z38 h2) (.cons h3.val (.cons h4.val (.cons h5.val .nil)))))
abbrev zax:Obj:=.cells #[qi 0,.string ⟨#[]⟩,.string ⟨#[]⟩,qs,qs,qs] 176 (0,0)
theorem st_end {R cap:Nat} {a:OA} {ts l l':List Tk} {w w1:World} {r:Option (St × List Tk)} {s:St} {a1 a2 a3:OA} {c1 c2 c3:Nat} (h0:Rd R a cap ts w l) (hr:r=some (s,l')) (hk:Keeps R w w1) (D6:Rd R a cap ts w1 l')
 (AK:s.mod.size<=maxLen) (AB:s.name.size<=maxLen) {lo:Nat} (h1:EAt w1 (lo<=·) a1 s.args.length (zb0 s.args)) (h2:EAt w1 (lo<=·) a2 s.body.length (zby s.body)) (h3:EAt w1 (lo<=·) a3 s.other.length (zby s.other)) (CN:w.heap.size<lo) :
 zd8 R a cap ts w r (zfw (w.heap.size<=·)) (.returned (.agg #[qi s.op,.string s.mod,.string s.name,.slice a1 s.args.length c1,.slice a2 s.body.length c2,.slice a3 s.other.length c3])) (set6 w1 w.heap.size (qi s.op) (.string s.mod) (.string s.name) (.slice a1 s.args.length c1) (.slice a2 s.body.length c2) (.slice a3 s.other.length c3)):=by
 have hm:zad w1 (lo<=·) (set6 w1 w.heap.size (qi s.op) (.string s.mod) (.string s.name) (.slice a1 s.args.length c1) (.slice a2 s.body.length c2) (.slice a3 s.other.length c3)) (w.heap.size<=·):=((zad.refl w1 (lo<=·)).set6 (by intro b _ hb;omega) _ _ _ _ _ _).to (by omega);exact ⟨hk.set6 (vaa _) _ _ _ _ _ _,Or.inr ⟨s,l',_,hr,rfl,⟨a1,c1,a2,c2,a3,c3,rfl,AK,AB,h1.moves hm,h2.moves hm,h3.moves hm⟩,D6.set6 h0 (vaa _) _ _ _ _ _ _⟩⟩
theorem zj3 (R cap:Nat) (a:OA) (ts l:List Tk) (w:World) (h:Rd R a cap ts w l) (op:Int) (mod name:ByteArray) (a1 a2 a3:OA) (n1 n2 n3 c1 c2 c3:Nat) :
 qc 284 #[pq R 0,.agg #[qi op,.string mod,.string name,.slice a1 n1 c1,.slice a2 n2 c2,.slice a3 n3 c3]] w fun e w'=>Keeps R w w'/\
  ((skB l zrr=false/\e = .panicked zbb)\/(skB l zrr=true/\e = .returned (.agg #[qi op,.string mod,.string name,.slice a1 n1 c1,.slice a2 n2 c2,.slice a3 n3 c3])/\Rd R a cap ts w' l.tail)):=by
 have HR:Hid (Rd R a cap ts w l):=h;have CT:=h.lt;clear h;go_enter Tryz.func284,Tryz.ntmps284;go_wp2_with fail;refine (zlk R cap _ a ts l zrr _ (by simp) ((HR.out.alloc _).alloc _) (by decide)).mono ?_;rintro e w1 ⟨AJ,⟨hs,rfl⟩ | ⟨hs,rfl,AV⟩⟩
 . exact ⟨rfl,(((Keeps.refl R w).alloc _).alloc _).trans AJ,Or.inl ⟨hs,rfl⟩⟩
 have Ao:=AJ.size;simp at Ao;have A8:Hid (w1.heap[w.heap.size]? = some (.cells #[qi op,.string mod,.string name,.slice a1 n1 c1,.slice a2 n2 c2,.slice a3 n3 c3] 176 (0,0))):=(AJ.block w.heap.size (by simp;omega) (by omega)).trans (zab (heap_newP _ _));have Gn:Hid (w1.heap[w.heap.size+1]? = some zax):=(AJ.block (w.heap.size+1) (by simp) (by omega)).trans (by have e:=heap_newP (w.alloc (kzB op mod name a1 n1 c1 a2 n2 c2 a3 n3 c3)) zax;simpa using e);have AX:Hid (Keeps R w w1):=(((Keeps.refl R w).alloc _).alloc _).trans AJ;have BI:Hid (Rd R a cap ts w1 l.tail):=AV;obtain ⟨f0,f1,f2,f3,f4,f5,f6⟩:=zal A8.out;obtain ⟨g0,g1,g2,g3,g4,g5,g6⟩:=zal Gn.out;clear AJ AV;go_wp2_with fail;refine bodyPost_ret (v:=.agg #[qi op,.string mod,.string name,.slice a1 n1 c1,.slice a2 n2 c2,.slice a3 n3 c3]) (by simp [results,Tryz.results284,go_sem,g0,g1,g2,g3,g4,g5]) rfl ⟨AX.out.set6 (by omega) _ _ _ _ _ _,Or.inr ⟨hs,rfl,BI.out.set6 HR.out (by omega) _ _ _ _ _ _⟩⟩
theorem zmf {R cap:Nat} {a:OA} {ts l':List Tk} {w w':World} {r:Option (St × List Tk)} {s:St} {a1 a2 a3:OA} {c1 c2 c3:Nat} (hr:r=some (s,l')) (hk:Keeps R w w') (D6:Rd R a cap ts w' l')
 (AK:s.mod.size<=maxLen) (AB:s.name.size<=maxLen) (h1:EAt w' (w.heap.size<=·) a1 s.args.length (zb0 s.args)) (h2:EAt w' (w.heap.size<=·) a2 s.body.length (zby s.body)) (h3:EAt w' (w.heap.size<=·) a3 s.other.length (zby s.other)) :
 zd8 R a cap ts w r (zfw (w.heap.size<=·)) (.returned (.agg #[qi s.op,.string s.mod,.string s.name,.slice a1 s.args.length c1,.slice a2 s.body.length c2,.slice a3 s.other.length c3])) w':=
 ⟨hk,Or.inr ⟨s,l',_,hr,rfl,⟨a1,c1,a2,c2,a3,c3,rfl,AK,AB,h1,h2,h3⟩,D6⟩⟩
theorem z50 (l:List Tk) (t u v:ByteArray):zi0 l [t,u,v]=if skB l t then some t else if skB l u then some u else if skB l v then some v else none:=by
 unfold zi0;rw [vcr,vcr,vcr];cases skB l t<;>cases skB l u<;>cases skB l v<;>rfl
theorem z7t (R cap n:Nat) (a:OA) (ts l:List Tk) (t u v:ByteArray) (w:World) (hn:n=w.heap.size) (h:Rd R a cap ts w l) (ht:0<t.size) (hu:0<u.size) (hv:0<v.size) :
 qc 195 #[pq R 0,.slice (some (qa n 0)) 3 3] (w.alloc (.cells #[.string t,.string u,.string v] 9)) fun e w'=>Keeps R w w'/\((skB l t=false/\skB l u=false/\skB l v=false/\e = .panicked zbb)\/(skB l t=true/\e = .returned (.string t)/\Rd R a cap ts w' l.tail)\/(skB l t=false/\skB l u=true/\e = .returned (.string u)/\Rd R a cap ts w' l.tail)\/(skB l t=false/\skB l u=false/\skB l v=true/\e = .returned (.string v)/\Rd R a cap ts w' l.tail)):=by
 have A0:=h.lt;subst hn;refine (zjf R cap w.heap.size 3 a ts l [t,u,v] _ (h.alloc _) (by simp) (by omega) (by simp) (fun i hi=>?_) (fun i hi=>?_)).mono ?_
 . obtain rfl | rfl | rfl:i=0\/i=1\/i=2:=by simp at hi;omega
   all_goals simp
 . obtain rfl | rfl | rfl:i=0\/i=1\/i=2:=by simp at hi;omega
   . exact ht
   . exact hu
   . exact hv
 . rintro e w' ⟨hk,hr⟩
   refine ⟨((Keeps.refl R w).alloc _).trans hk,?_⟩;rw [z50] at hr
   have Ci:∀ x:ByteArray,((some x).map fun t=>(t,l.tail))=some (x,l.tail):=fun _=>rfl
   cases hs:skB l t<;>cases B7:skB l u<;>cases Cw:skB l v<;>rw [hs,B7,Cw] at hr<;>simp only [vcu,if_false,if_true,Option.map_none,Option.map_some] at hr
   . rcases hr with ⟨_,rfl⟩ | ⟨x,l',y,hr,_⟩
     . exact Or.inl ⟨rfl,rfl,rfl,rfl⟩
     . cases hr
   all_goals
    rcases hr with ⟨hr,_⟩ | ⟨x,l',y,hr,rfl,rfl,hR⟩
    . cases hr
    . obtain ⟨rfl,rfl⟩:=vbc (vai hr)
      simp [hR]
theorem z3u {R cap:Nat} {a:OA} {ts l l8:List Tk} {w w8 w9:World} {r:Option (St × List Tk)} {x y:Ex} {m n:ByteArray} {g9 c9:Nat} (h0:Rd R a cap ts w l) (hr:r=some (.mk 2 m n [x,y] [] [],l8)) (BP:Keeps R w w8) (DL:Rd R a cap ts w8 l8)
 (hm:m.size<=maxLen) (CX:n.size<=maxLen) (BT:Below (w.heap.size+2) w8 w9) (JZ:Row (w.heap.size+2) 174 5 w9 (.slice (some (qa g9 0)) 2 c9) 2 (x.ds++y.ds)) :
 zd8 R a cap ts w r (zfw (w.heap.size<=·)) (.returned (.agg #[qi 2,.string m,.string n,.slice (some (qa g9 0)) 2 c9,qs,qs])) (set6 (w9.setCell ⟨w.heap.size+1,3,none⟩ (.slice (some (qa g9 0)) 2 c9)) w.heap.size (qi 2) (.string m) (.string n) (.slice (some (qa g9 0)) 2 c9) (qs) (qs)):=by
 have NY:Below w.heap.size w8 w9:=BT.mono (by omega)
 have hd:zb0 [x,y]=x.ds++y.ds:=by simp [zb0]
 obtain ⟨a',c',hv,AF⟩:=JZ.slice
 injection hv with hv1 hv2 hv3
 rw [← hv1,← hd] at AF;have Ms:=AF.moves ((((zad.refl w9 (w.heap.size+2<=·)).set (p:=⟨w.heap.size+1,3,none⟩) (by intro b _ hb;show b≠w.heap.size+1;omega) (.slice (some (qa g9 0)) 2 c9)).set6 (b:=w.heap.size) (by intro b _ hb;omega) (qi 2) (.string m) (.string n) (.slice (some (qa g9 0)) 2 c9) (qs) (qs)).to (lo':=w.heap.size) (by omega))
 have Oh:=(((BP.belowOf NY).set (p:=⟨w.heap.size+1,3,none⟩) (by show w.heap.size<=w.heap.size+1;omega) (.slice (some (qa g9 0)) 2 c9)).set6 (b:=w.heap.size) (vaa _) (qi 2) (.string m) (.string n) (.slice (some (qa g9 0)) 2 c9) (qs) (qs))
 have PZ:=((DL.belowOf h0 NY).setAbove h0 (p:=⟨w.heap.size+1,3,none⟩) (by show w.heap.size<=w.heap.size+1;omega) (.slice (some (qa g9 0)) 2 c9)).set6 h0 (b:=w.heap.size) (vaa _) (qi 2) (.string m) (.string n) (.slice (some (qa g9 0)) 2 c9) (qs) (qs);exact zmf (s:=.mk 2 m n [x,y] [] []) hr Oh PZ hm CX Ms (Or.inl rfl) (Or.inl rfl)
theorem z3v:Enters Tryz.prog 283:=enters_of Tryz.func283 (by kernel_rfl) rfl
theorem zxq (R cap:Nat) (a:OA) (ts l:List Tk) (w:World) (h:Rd R a cap ts w l) :
 qc 285 #[pq R 0] w (zd8 R a cap ts w (zbu l) (zfw (w.heap.size<=·))):=by
 have HR:Hid (Rd R a cap ts w l):=h;have CT:=h.lt;clear h;go_enter Tryz.func285,Tryz.ntmps285;go_wp2_with fail;refine (zxi R cap a ts l _ ((HR.out.alloc _).alloc _)).mono ?_;rintro e w1 ⟨AJ,⟨hn,rfl⟩ | ⟨⟨m,n⟩,l1,v,hn,rfl,⟨rfl,hm,CX⟩,AV⟩⟩
 . exact ⟨rfl,(((Keeps.refl R w).alloc _).alloc _).trans AJ,Or.inl ⟨by unfold zbu;rw [hn],rfl⟩⟩
 have Ao:=AJ.size;simp at Ao
 have Bc:Hid (zbu l=if skB l1 tEq then (match pX l1.tail with | none=>none | some (x,l2)=>some (.mk 1 m n [x] [] [],l2))
  else if skB l1 tLs then (match pX l1.tail with
   | none=>none
   | some (x,l2)=>if skB l2 tRs then (if skB l2.tail tEq then (match pX l2.tail.tail with | none=>none | some (y,l3)=>some (.mk 2 m n [x,y] [] [],l3)) else none) else none)
  else if skB l1 tLp then (match pAs l1.tail with | none=>none | some (xs,l2)=>some (.mk 3 m n xs [] [],l2))
  else none):=by show zbu l=_;unfold zbu;rw [hn];rfl
 have AX:Hid (Keeps R w w1):=(((Keeps.refl R w).alloc _).alloc _).trans AJ;have A8:Hid (w1.heap[w.heap.size]? = some zax):=(AJ.block w.heap.size (by simp;omega) (by omega)).trans (zab (heap_newP _ _));have Gn:Hid (w1.heap[w.heap.size+1]? = some zax):=(AJ.block (w.heap.size+1) (by simp) (by omega)).trans (by have e:=heap_newP (w.alloc zax) zax;simpa using e);obtain ⟨h0,h1,h2,h3,h4,h5,h6⟩:=zal Gn.out;have Am:Hid (Rd R a cap ts ((w1.setCell ⟨w.heap.size+1,1,none⟩ (.string m)).setCell ⟨w.heap.size+1,2,none⟩ (.string n)) l1):=(AV.setAbove HR.out (by show _<=w.heap.size+1;omega) _).setAbove HR.out (by show _<=w.heap.size+1;omega) _;have AM:Hid (Keeps R w ((w1.setCell ⟨w.heap.size+1,1,none⟩ (.string m)).setCell ⟨w.heap.size+1,2,none⟩ (.string n))):=(AX.out.set (by show _<=w.heap.size+1;omega) _).set (by show _<=w.heap.size+1;omega) _
 have Ad:Hid (((w1.setCell ⟨w.heap.size+1,1,none⟩ (.string m)).setCell ⟨w.heap.size+1,2,none⟩ (.string n)).heap[w.heap.size]? = some zax):=(heap_set_ne (by show w.heap.size≠w.heap.size+1;omega) _).trans ((heap_set_ne (by show w.heap.size≠w.heap.size+1;omega) _).trans A8.out);have Bh:Hid (((w1.setCell ⟨w.heap.size+1,1,none⟩ (.string m)).setCell ⟨w.heap.size+1,2,none⟩ (.string n)).heap[w.heap.size+1]? = some (.cells #[qi 0,.string m,.string n,qs,qs,qs] 176 (0,0))):=heap_set (heap_set Gn.out _) _
 have AA:((w1.setCell ⟨w.heap.size+1,1,none⟩ (.string m)).setCell ⟨w.heap.size+1,2,none⟩ (.string n)).heap.size=w1.heap.size:=by simp only [vaq]
 have Db:w.heap.size+1<w1.heap.size:=by omega
 clear hn AV AJ A8 AX;go_wp2_with fail;generalize (w1.setCell ⟨w.heap.size+1,1,none⟩ (.string m)).setCell ⟨w.heap.size+1,2,none⟩ (.string n)=w2 at *;clear h0 h1 h2 h3 h4 h5 h6 Gn;refine (z7t R cap _ a ts l1 tEq tLs tLp w2 (by omega) Am.out (by decide) (by decide) (by decide)).mono ?_;rintro e w3 ⟨At,⟨s1,s2,s3,rfl⟩ | ⟨s1,rfl,Av⟩ | ⟨s1,s2,rfl,Av⟩ | ⟨s1,s2,s3,rfl,Av⟩⟩
 . exact ⟨rfl,AM.out.trans At,Or.inl ⟨by rw [Bc.out,s1,s2,s3];rfl,rfl⟩⟩
 . have BO:=At.size
   have Af:Hid (w3.heap[w.heap.size]? = some zax):=(At.block w.heap.size (by omega) (by omega)).trans Ad.out;have BF:Hid (w3.heap[w.heap.size+1]? = some (.cells #[qi 0,.string m,.string n,qs,qs,qs] 176 (0,0))):=(At.block (w.heap.size+1) (by omega) (by omega)).trans Bh.out;obtain ⟨h0,h1,h2,h3,h4,h5,h6⟩:=zal BF.out;have AP:Hid (Rd R a cap ts (w3.setCell ⟨w.heap.size+1,0,none⟩ (qi 1)) l1.tail):=Av.setAbove HR.out (by show _<=w.heap.size+1;omega) _;have Ay:Hid (Keeps R w (w3.setCell ⟨w.heap.size+1,0,none⟩ (qi 1))):=(AM.out.trans At).set (by show _<=w.heap.size+1;omega) _;have An:Hid ((w3.setCell ⟨w.heap.size+1,0,none⟩ (qi 1)).heap[w.heap.size]? = some zax):=(heap_set_ne (by show w.heap.size≠w.heap.size+1;omega) _).trans Af.out;have CU:Hid ((w3.setCell ⟨w.heap.size+1,0,none⟩ (qi 1)).heap[w.heap.size+1]? = some (.cells #[qi 1,.string m,.string n,qs,qs,qs] 176 (0,0))):=heap_set BF.out _
   have D4:(w3.setCell ⟨w.heap.size+1,0,none⟩ (qi 1)).heap.size=w3.heap.size:=by simp only [vaq]
   clear Av At Af Am AM Ad Bh;go_wp2_with fail;generalize w3.setCell ⟨w.heap.size+1,0,none⟩ (qi 1)=w4 at *;clear h0 h1 h2 h3 h4 h5 h6 BF;refine (zec R cap a ts l1.tail w4 AP.out).mono ?_;rintro e w5 ⟨Ax,⟨hn,rfl⟩ | ⟨x,l5,v,hn,rfl,⟨a5,c5,rfl,AK,AB,hx3⟩,Bl⟩⟩
   . exact ⟨rfl,Ay.out.trans Ax,Or.inl ⟨by rw [Bc.out,if_pos s1,hn],rfl⟩⟩
   have Cc:=Ax.size
   have HP:Hid (zbu l=some (.mk 1 m n [x] [] [],l5)):=by show zbu l=_;rw [Bc.out,if_pos s1,hn]
   have Ar:Hid (w5.heap[w.heap.size]? = some zax):=(Ax.block w.heap.size (by omega) (by omega)).trans An.out;have BX:Hid (w5.heap[w.heap.size+1]? = some (.cells #[qi 1,.string m,.string n,qs,qs,qs] 176 (0,0))):=(Ax.block (w.heap.size+1) (by omega) (by omega)).trans CU.out
   have HF:Hid (zd8 R a cap ts w (zbu l) (zfw (w.heap.size<=·)) (.returned (.agg #[qi 1,.string m,.string n,.slice (some (qa w5.heap.size 0)) 1 1,qs,qs])) ((set6 (w5.setCell ⟨w.heap.size+1,3,none⟩ (.slice (some (qa w5.heap.size 0)) 1 1)) w.heap.size (qi 1) (.string m) (.string n) (.slice (some (qa w5.heap.size 0)) 1 1) (qs) (qs)).alloc (kzE x.op x.n x.mod x.name a5 x.args.length c5))):=by
    refine zmf (s:=.mk 1 m n [x] [] []) HP.out ((((Ay.out.trans Ax).set (by show _<=w.heap.size+1;omega) _).set6 (vaa _) _ _ _ _ _ _).alloc _) (((Bl.setAbove HR.out (by show _<=w.heap.size+1;omega) _).set6 HR.out (vaa _) _ _ _ _ _ _).alloc _) hm CX ?_ (Or.inl rfl) (Or.inl rfl);refine zj2 (t:=174) (cap:=c5) AK AB hx3 (((((zad.refl w5 _).set (by intro b _ hb;show b≠w.heap.size+1;omega) _).set6 (b:=w.heap.size) (by intro b _ hb;omega) _ _ _ _ _ _).alloc _).to (by omega)) ?_ (by show w.heap.size<=w5.heap.size;omega);have e:=heap_newP (set6 (w5.setCell ⟨w.heap.size+1,3,none⟩ (.slice (some (qa w5.heap.size 0)) 1 1)) w.heap.size (qi 1) (.string m) (.string n) (.slice (some (qa w5.heap.size 0)) 1 1) (qs) (qs)) (kzE x.op x.n x.mod x.name a5 x.args.length c5);simp only [vaq] at e;exact e
   obtain ⟨h0,h1,h2,h3,h4,h5,h6⟩:=zal Ar.out;obtain ⟨g0,g1,g2,g3,g4,g5,g6⟩:=zal BX.out
   have Q7:w.heap.size+1<w5.heap.size:=by omega
   have Q6:w.heap.size<w5.heap.size:=by omega
   clear hn Ax Bl AK AB hx3 An CU AP Ay;go_wp2_with fail;refine bodyPost_ret (v:=.agg #[qi 1,.string m,.string n,.slice (some (qa w5.heap.size 0)) 1 1,qs,qs]) (by simp [results,Tryz.results285,go_sem,h0,h1,h2,h3,h4,h5,Q6]) rfl HF.out
 . have BO:=At.size
   have Af:Hid (w3.heap[w.heap.size]? = some zax):=(At.block w.heap.size (by omega) (by omega)).trans Ad.out;have BF:Hid (w3.heap[w.heap.size+1]? = some (.cells #[qi 0,.string m,.string n,qs,qs,qs] 176 (0,0))):=(At.block (w.heap.size+1) (by omega) (by omega)).trans Bh.out;obtain ⟨h0,h1,h2,h3,h4,h5,h6⟩:=zal BF.out;have AP:Hid (Rd R a cap ts (w3.setCell ⟨w.heap.size+1,0,none⟩ (qi 2)) l1.tail):=Av.setAbove HR.out (by show _<=w.heap.size+1;omega) _;have Ay:Hid (Keeps R w (w3.setCell ⟨w.heap.size+1,0,none⟩ (qi 2))):=(AM.out.trans At).set (by show _<=w.heap.size+1;omega) _;have An:Hid ((w3.setCell ⟨w.heap.size+1,0,none⟩ (qi 2)).heap[w.heap.size]? = some zax):=(heap_set_ne (by show w.heap.size≠w.heap.size+1;omega) _).trans Af.out;have CU:Hid ((w3.setCell ⟨w.heap.size+1,0,none⟩ (qi 2)).heap[w.heap.size+1]? = some (.cells #[qi 2,.string m,.string n,qs,qs,qs] 176 (0,0))):=heap_set BF.out _
   have D4:(w3.setCell ⟨w.heap.size+1,0,none⟩ (qi 2)).heap.size=w3.heap.size:=by simp only [vaq]
   clear Av At Af Am AM Ad Bh;go_wp2_with fail;generalize w3.setCell ⟨w.heap.size+1,0,none⟩ (qi 2)=w4 at *;clear h0 h1 h2 h3 h4 h5 h6 BF;refine (zec R cap a ts l1.tail w4 AP.out).mono ?_;rintro e w5 ⟨Ax,⟨hn,rfl⟩ | ⟨x,l5,v,hn,rfl,⟨a5,c5,rfl,AK,AB,hx3⟩,Bl⟩⟩
   . exact ⟨rfl,Ay.out.trans Ax,Or.inl ⟨by rw [Bc.out,if_neg (by simp [s1]),if_pos s2,hn],rfl⟩⟩
   have Cc:=Ax.size
   have Le:Hid (zbu l=if skB l5 tRs then (if skB l5.tail tEq then (match pX l5.tail.tail with | none=>none | some (y,l3)=>some (.mk 2 m n [x,y] [] [],l3)) else none) else none):=by show zbu l=_;rw [Bc.out,if_neg (by simp [s1]),if_pos s2,hn]
   have Ar:Hid (w5.heap[w.heap.size]? = some zax):=(Ax.block w.heap.size (by omega) (by omega)).trans An.out;have BX:Hid (w5.heap[w.heap.size+1]? = some (.cells #[qi 2,.string m,.string n,qs,qs,qs] 176 (0,0))):=(Ax.block (w.heap.size+1) (by omega) (by omega)).trans CU.out;have Cv:Hid (Keeps R w w5):=Ay.out.trans Ax;have Dn:Hid (Rd R a cap ts w5 l5):=Bl;have CH:Hid (zat w5 (w4.heap.size<=·) x.ds (ze3 x a5 c5)):=ze4 AK AB hx3;obtain ⟨h0,h1,h2,h3,h4,h5,h6⟩:=zal BX.out
   have Q7:w.heap.size+1<w5.heap.size:=by omega
   clear hn Ax Bl AK AB hx3 An CU AP Ay Bc;go_wp2_with fail;refine (zlk R cap _ a ts l5 tRs _ (by simp) ((Dn.out.setAbove HR.out (by show _<=w.heap.size+1;omega) _).alloc _) (by decide)).mono ?_;rintro e w6 ⟨Eo,⟨t6,rfl⟩ | ⟨t6,rfl,Hj⟩⟩
   . exact ⟨rfl,((Cv.out.set (by show _<=w.heap.size+1;omega) _).alloc _).trans Eo,Or.inl ⟨by rw [Le.out,t6];rfl,rfl⟩⟩
   have I9:=Eo.size;simp at I9
   have E7:Hid (Row (w.heap.size+2) 174 5 w6 (.slice (some (qa w5.heap.size 0)) 1 1) 1 x.ds):=by
    have e:=Row.first (base:=w.heap.size+2) (e:=174) (size:=5) (w:=w5.setCell ⟨w.heap.size+1,3,none⟩ (.slice (some (qa w5.heap.size 0)) 1 1)) (A:=(w4.heap.size<=·)) (ds:=x.ds) (cs:=#[qi x.op,qi x.n,.string x.mod,.string x.name,.slice a5 x.args.length c5])
     (CH.out.moves ((zad.refl w5 _).set (by intro b _ hb;show b≠w.heap.size+1;omega) _)) (fun b _ hb=>by omega) (by simp;omega) rfl
    simp only [vaq] at e;exact Row.keeps e Eo (by omega)
   have Cb:Hid (w6.heap[w.heap.size]? = some zax):=(Eo.block w.heap.size (by simp;omega) (by omega)).trans (zab ((heap_set_ne (by show w.heap.size≠w.heap.size+1;omega) _).trans Ar.out));have I1:Hid (w6.heap[w.heap.size+1]? = some (.cells #[qi 2,.string m,.string n,.slice (some (qa w5.heap.size 0)) 1 1,qs,qs] 176 (0,0))):=(Eo.block (w.heap.size+1) (by simp;omega) (by omega)).trans (zab (heap_set BX.out _));have Hv:Hid (Keeps R w w6):=((Cv.out.set (by show _<=w.heap.size+1;omega) _).alloc _).trans Eo;have JV:Hid (Rd R a cap ts w6 l5.tail):=Hj;clear Hj Eo Dn Cv CH Ar BX h0 h1 h2 h3 h4 h5 h6;go_wp2_with fail;refine (zlk R cap _ a ts l5.tail tEq _ (by simp) JV.out (by decide)).mono ?_;rintro e w7 ⟨CE,⟨t7,rfl⟩ | ⟨t7,rfl,HR7⟩⟩
   . exact ⟨rfl,Hv.out.trans CE,Or.inl ⟨by rw [Le.out,t6,t7];rfl,rfl⟩⟩
   have IW:=CE.size;have Iw:Hid (Row (w.heap.size+2) 174 5 w7 (.slice (some (qa w5.heap.size 0)) 1 1) 1 x.ds):=E7.out.keeps CE (by omega);have Bw:Hid (w7.heap[w.heap.size]? = some zax):=(CE.block w.heap.size (by omega) (by omega)).trans Cb.out;have F9:Hid (w7.heap[w.heap.size+1]? = some (.cells #[qi 2,.string m,.string n,.slice (some (qa w5.heap.size 0)) 1 1,qs,qs] 176 (0,0))):=(CE.block (w.heap.size+1) (by omega) (by omega)).trans I1.out;have Do:Hid (Keeps R w w7):=Hv.out.trans CE;have Dm:Hid (Rd R a cap ts w7 l5.tail.tail):=HR7
   have Hn:Hid (zbu l=match pX l5.tail.tail with | none=>none | some (y,l3)=>some (.mk 2 m n [x,y] [] [],l3)):=by show zbu l=_;rw [Le.out,t6,t7];rfl
   obtain ⟨h0,h1,h2,h3,h4,h5,h6⟩:=zal F9.out;clear HR7 CE JV Hv Cb I1 E7 Le t6 t7
   cases hx:pX l5.tail.tail with
   | none=>
     have HE:Hid (∀ w',Rd R a cap ts w' l5.tail.tail->qc 283 #[pq R 0] w' fun e Ce=>e = .panicked zbb/\Keeps R w' Ce):=fun w' h'=>by
      refine (zec R cap a ts _ w' h').mono ?_;rintro e Ce ⟨hk,⟨_,rfl⟩ | ⟨_,_,_,h,_⟩⟩
      . exact ⟨rfl,hk⟩
      . rw [hx] at h;cases h
     have HP:Hid (zbu l=none):=by show zbu l=_;rw [Hn.out,hx]
     clear hx Hn;go_wp2_with fail;refine wp_region_any (by kernel_rfl) ?_
     change wpAny _ _ _ _ _ _ _ (World.drew _)
     refine wpAny_take (i:=2) (v:=pq R 0) rfl (by kernel_rfl) (by kernel_rfl) (by kernel_rfl) (fun c a w h=>h) (Or.inl ⟨by rfl,fun w=>by go_simp⟩) ?_;refine wpAny_take (i:=0) (v:=.pointer (some ⟨w.heap.size+1,3,none⟩)) rfl (by kernel_rfl) (by kernel_rfl) (by kernel_rfl) (fun c a w h=>h) (Or.inl ⟨by rfl,fun w=>by go_simp⟩) ?_;refine wpAny_ready (rs:=[1,3]) (by kernel_rfl) (by simp) ?_;refine vet rfl (fun K hK=>?_) (vet rfl (fun K hK=>?_) vev)
     . go_simp
       refine hK _ _ ?_;clear hK K;refine wpAny_ready (rs:=[3]) (by kernel_rfl) (by simp) ?_;refine vet rfl (fun K hK=>?_) vev;refine zme (by rfl) 283 _ _ (by rfl) z3v _ (by rfl) zbb (HE.out _ Dm.out.drew) ?_;intro w8 hk8;exact ⟨rfl,Do.out.drew.trans hk8,Or.inl ⟨HP.out,rfl⟩⟩
     . refine zme (by rfl) 283 _ _ (by rfl) z3v _ (by rfl) zbb (HE.out _ Dm.out.drew) ?_
       intro w8 hk8;exact ⟨rfl,Do.out.drew.trans hk8,Or.inl ⟨HP.out,rfl⟩⟩
   | some r=>
     obtain ⟨y,l8⟩:=r
     have HE:Hid (∀ w',Rd R a cap ts w' l5.tail.tail->qc 283 #[pq R 0] w' fun e Ce=>∃ u,e = .returned u/\(Keeps R w' Ce/\zgf (w'.heap.size<=·) y Ce u/\Rd R a cap ts Ce l8)):=fun w' h'=>by
      refine (zec R cap a ts _ w' h').mono ?_;rintro e Ce ⟨hk,⟨h,_⟩ | ⟨y',l',u,h,rfl,hr,hd⟩⟩
      . rw [hx] at h;cases h
      . rw [hx] at h
        obtain ⟨rfl,rfl⟩:=vbc (vai h);exact ⟨u,rfl,hk,hr,hd⟩
     have HP:Hid (zbu l=some (.mk 2 m n [x,y] [] [],l8)):=by show zbu l=_;rw [Hn.out,hx]
     clear hx Hn;go_wp2_with fail
     go_region_law (first
      | (refine zf6 (by rfl) 283 _ _ (by rfl) z3v _ (by rfl) (HE.out _ Dm.out.drew) ?_
         rintro u8 w8 ⟨BP,⟨a8,c8,rfl,Da,CW,DQ⟩,DL⟩;have IV:w7.heap.size<=w8.heap.size:=BP.size
         have Q5:w.heap.size+1<w8.heap.size:=by omega
         have D3:Hid (w8.heap[w.heap.size+1]? = some (.cells #[qi 2,.string m,.string n,.slice (some (qa w5.heap.size 0)) 1 1,qs,qs] 176 (0,0))):=(BP.block (w.heap.size+1) (show w.heap.size+1<w7.heap.size by omega) (by omega)).trans F9.out;have B6:Hid (w8.heap[w.heap.size]? = some zax):=(BP.block w.heap.size (show w.heap.size<w7.heap.size by omega) (by omega)).trans Bw.out;have QH:w8.cell? ⟨w.heap.size+1,3,none⟩=some (.slice (some (qa w5.heap.size 0)) 1 1):=(BP.cell (show w.heap.size+1<w7.heap.size by omega) (by omega)).trans h3
         have Iv:Hid (Row (w.heap.size+2) 174 5 w8 (.slice (some (qa w5.heap.size 0)) 1 1) 1 x.ds):=(Iw.out.keeps (Keeps.refl R w7).drew (by omega)).keeps BP (by omega))
      | (refine zfv (by rfl) _ _ 172 (by rfl) (w.heap.size+2) 174 _ 5 72 Tryz.underlying172 Tryz.infoP80 rfl (by decide) w8 _ 1 x.ds y.ds (by rfl) Iv.out _ _ rfl (by rfl) rfl (w7.heap.size<=·) (ze4 Da CW DQ) (fun b _ hb=>⟨by omega,fun h=>by have h':w5.heap.size=b:=vai h;omega⟩) (by omega) (by decide) (by omega) ?_
         intro g9 c9 w9 JZ BT Gs;have IK:Hid (w9.heap[w.heap.size+1]? = some (.cells #[qi 2,.string m,.string n,.slice (some (qa w5.heap.size 0)) 1 1,qs,qs] 176 (0,0))):=(BT.block (w.heap.size+1) (by omega)).trans D3.out;have Sb:Hid (w9.heap[w.heap.size]? = some zax):=(BT.block w.heap.size (by omega)).trans B6.out;obtain ⟨k0,k1,k2,k3,k4,k5,k6⟩:=zal IK.out;obtain ⟨m0,m1,m2,m3,m4,m5,m6⟩:=zal Sb.out
         have Qb:w.heap.size≠w.heap.size+1:=by omega
         have HF:Hid (zd8 R a cap ts w (zbu l) (zfw (w.heap.size<=·)) (.returned (.agg #[qi 2,.string m,.string n,.slice (some (qa g9 0)) 2 c9,qs,qs])) (set6 (w9.setCell ⟨w.heap.size+1,3,none⟩ (.slice (some (qa g9 0)) 2 c9)) w.heap.size (qi 2) (.string m) (.string n) (.slice (some (qa g9 0)) 2 c9) (qs) (qs))):=z3u HR.out HP.out (Do.out.drew.trans BP) DL hm CX BT JZ))
     all_goals
      go_wp2_with fail;refine bodyPost_ret (v:=.agg #[qi 2,.string m,.string n,.slice (some (qa g9 0)) 2 c9,qs,qs]) (by simp [results,Tryz.results285,go_sem,m0,m1,m2,m3,m4,m5]) rfl HF.out
 . have BO:=At.size
   have Af:Hid (w3.heap[w.heap.size]? = some zax):=(At.block w.heap.size (by omega) (by omega)).trans Ad.out;have BF:Hid (w3.heap[w.heap.size+1]? = some (.cells #[qi 0,.string m,.string n,qs,qs,qs] 176 (0,0))):=(At.block (w.heap.size+1) (by omega) (by omega)).trans Bh.out;obtain ⟨h0,h1,h2,h3,h4,h5,h6⟩:=zal BF.out;have AP:Hid (Rd R a cap ts (w3.setCell ⟨w.heap.size+1,0,none⟩ (qi 3)) l1.tail):=Av.setAbove HR.out (by show _<=w.heap.size+1;omega) _;have Ay:Hid (Keeps R w (w3.setCell ⟨w.heap.size+1,0,none⟩ (qi 3))):=(AM.out.trans At).set (by show _<=w.heap.size+1;omega) _;have An:Hid ((w3.setCell ⟨w.heap.size+1,0,none⟩ (qi 3)).heap[w.heap.size]? = some zax):=(heap_set_ne (by show w.heap.size≠w.heap.size+1;omega) _).trans Af.out;have CU:Hid ((w3.setCell ⟨w.heap.size+1,0,none⟩ (qi 3)).heap[w.heap.size+1]? = some (.cells #[qi 3,.string m,.string n,qs,qs,qs] 176 (0,0))):=heap_set BF.out _
   have D4:(w3.setCell ⟨w.heap.size+1,0,none⟩ (qi 3)).heap.size=w3.heap.size:=by simp only [vaq]
   clear Av At Af Am AM Ad Bh;go_wp2_with fail;generalize w3.setCell ⟨w.heap.size+1,0,none⟩ (qi 3)=w4 at *;clear h0 h1 h2 h3 h4 h5 h6 BF;refine (z0j R cap a ts l1.tail w4 AP.out).mono ?_;rintro e w5 ⟨Ax,⟨hn,rfl⟩ | ⟨xs,l5,v,hn,rfl,⟨a5,c5,rfl,hx3⟩,Bl⟩⟩
   . exact ⟨rfl,Ay.out.trans Ax,Or.inl ⟨by rw [Bc.out,if_neg (by simp [s1]),if_neg (by simp [s2]),if_pos s3,hn],rfl⟩⟩
   have Cc:=Ax.size
   have HP:Hid (zbu l=some (.mk 3 m n xs [] [],l5)):=by show zbu l=_;rw [Bc.out,if_neg (by simp [s1]),if_neg (by simp [s2]),if_pos s3,hn]
   have Ar:Hid (w5.heap[w.heap.size]? = some zax):=(Ax.block w.heap.size (by omega) (by omega)).trans An.out;have BX:Hid (w5.heap[w.heap.size+1]? = some (.cells #[qi 3,.string m,.string n,qs,qs,qs] 176 (0,0))):=(Ax.block (w.heap.size+1) (by omega) (by omega)).trans CU.out
   have HF:Hid (zd8 R a cap ts w (zbu l) (zfw (w.heap.size<=·)) (.returned (.agg #[qi 3,.string m,.string n,.slice a5 xs.length c5,qs,qs])) (set6 (w5.setCell ⟨w.heap.size+1,3,none⟩ (.slice a5 xs.length c5)) w.heap.size (qi 3) (.string m) (.string n) (.slice a5 xs.length c5) (qs) (qs))):=by
    refine zmf (s:=.mk 3 m n xs [] []) HP.out (((Ay.out.trans Ax).set (by show _<=w.heap.size+1;omega) _).set6 (vaa _) _ _ _ _ _ _) ((Bl.setAbove HR.out (by show _<=w.heap.size+1;omega) _).set6 HR.out (vaa _) _ _ _ _ _ _) hm CX ?_ (Or.inl rfl) (Or.inl rfl);exact hx3.moves ((((zad.refl w5 _).set (by intro b _ hb;show b≠w.heap.size+1;omega) _).set6 (b:=w.heap.size) (by intro b _ hb;omega) _ _ _ _ _ _).to (by omega))
   obtain ⟨h0,h1,h2,h3,h4,h5,h6⟩:=zal Ar.out;obtain ⟨g0,g1,g2,g3,g4,g5,g6⟩:=zal BX.out;clear hn Ax Bl hx3 An CU AP Ay;go_wp2_with fail;refine bodyPost_ret (v:=.agg #[qi 3,.string m,.string n,.slice a5 xs.length c5,qs,qs]) (by simp [results,Tryz.results285,go_sem,h0,h1,h2,h3,h4,h5]) rfl HF.out
set_option maxHeartbeats 1600000
theorem zxr {l l':List Tk} {s:St} (h:zbu l=some (s,l')):l'.length<l.length:=by
 unfold zbu at h
 split at h
 . cases h
 rename_i m n l1 h1
 have:=zrs h1
 split at h
 . rename_i hs
   have:=za0 (by decide) hs
   split at h
   . cases h
   rename_i x l2 h2
   have:=zn3 h2;obtain ⟨_,rfl⟩:=vbc (vai h);omega
 split at h
 . rename_i hs
   have:=za0 (by decide) hs
   split at h
   . cases h
   rename_i x l2 h2
   have:=zn3 h2
   split at h
   . rename_i B7
     have:=za0 (by decide) B7
     split at h
     . rename_i Cw
       have:=za0 (by decide) Cw
       split at h
       . cases h
       rename_i y l3 h3
       have:=zn3 h3;obtain ⟨_,rfl⟩:=vbc (vai h);omega
     . cases h
   . cases h
 split at h
 . rename_i hs
   have:=za0 (by decide) hs
   split at h
   . cases h
   rename_i x l2 h2
   have:=z6g h2;obtain ⟨_,rfl⟩:=vbc (vai h);omega
 . cases h
theorem zj4 {r:Option (St × List Tk)} {l':List Tk} {s:St} {n:Nat} (h:zee r=some (s,l')) (hr:∀ s l,r=some (s,l)->l.length<n):l'.length<n:=by
 unfold zee at h
 split at h
 . cases h
 . rename_i s1 l1
   have:=hr s1 l1 rfl
   split at h
   . rename_i hs
     have:=za0 (by decide) hs;obtain ⟨_,rfl⟩:=vbc (vai h);omega
   . cases h
def zcg (f:Nat) (l:List Tk):Option (St × List Tk):=
 match pX l with
 | none=>none
 | some (x,l1)=>match zb1 f l1 with
   | none=>none
   | some (b,l2)=>if skB l2 zrq then (match zb1 f l2.tail with | none=>none | some (o,l3)=>if o.length=0 then none else some (.mk 4 ⟨#[]⟩ ⟨#[]⟩ [x] b o,l3))
     else some (.mk 4 ⟨#[]⟩ ⟨#[]⟩ [x] b [],l2)
theorem zta {f:Nat} {l:List Tk} (h:skB l tIf=true):zcy (f+1) l=zcg f l.tail:=by
 unfold zcy;rw [if_pos h];rfl
theorem zgv {f:Nat} {l:List Tk} (h:skB l tIf=false) (h1:skB l zgm=true):zcy (f+1) l=(match pX l.tail with
 | none=>none
 | some (x,l1)=>match zb1 f l1 with | none=>none | some (b,l2)=>some (.mk 5 ⟨#[]⟩ ⟨#[]⟩ [x] b [],l2)):=by
 unfold zcy;rw [if_neg (by simp [h]),if_pos h1];rfl
theorem zfx {f:Nat} {l:List Tk} (h:skB l tIf=false) (h1:skB l zgm=false) (h2:skB l ze9=true):zcy (f+1) l=zee (match pX l.tail with | none=>none | some (x,l1)=>some (.mk 6 ⟨#[]⟩ ⟨#[]⟩ [x] [] [],l1)):=by
 unfold zcy;rw [if_neg (by simp [h]),if_neg (by simp [h1]),if_pos h2];rfl
theorem zj5 {f:Nat} {l:List Tk} (h:skB l tIf=false) (h1:skB l zgm=false) (h2:skB l ze9=false) (h3:skB l z2o=true):zcy (f+1) l=zee (match pX l.tail with | none=>none | some (x,l1)=>some (.mk 7 ⟨#[]⟩ ⟨#[]⟩ [x] [] [],l1)):=by
 unfold zcy;rw [if_neg (by simp [h]),if_neg (by simp [h1]),if_neg (by simp [h2]),if_pos h3];rfl
theorem zgw {f:Nat} {l:List Tk} (h:skB l tIf=false) (h1:skB l zgm=false) (h2:skB l ze9=false) (h3:skB l z2o=false):zcy (f+1) l=zee (zbu l):=by
 unfold zcy;rw [if_neg (by simp [h]),if_neg (by simp [h1]),if_neg (by simp [h2]),if_neg (by simp [h3])]
mutual
theorem ztb:∀ (f:Nat) (l l':List Tk) (s:St),zcy f l=some (s,l')->l'.length<l.length
 | 0,_,_,_,h=>by simp [zcy] at h
 | f + 1,l,l',s,h=>by
   unfold zcy at h
   split at h
   . rename_i hs
     have:=za0 (by decide) hs
     split at h
     . cases h
     rename_i x l1 h1
     have:=zn3 h1
     split at h
     . cases h
     rename_i b l2 h2
     have:=zg8 f _ _ _ h2
     split at h
     . rename_i B7
       have:=za0 (by decide) B7
       split at h
       . cases h
       rename_i o l3 h3
       have:=zg8 f _ _ _ h3
       split at h
       . cases h
       . obtain ⟨_,rfl⟩:=vbc (vai h)
         omega
     . obtain ⟨_,rfl⟩:=vbc (vai h)
       omega
   split at h
   . rename_i hs
     have:=za0 (by decide) hs
     split at h
     . cases h
     rename_i x l1 h1
     have:=zn3 h1
     split at h
     . cases h
     rename_i b l2 h2
     have:=zg8 f _ _ _ h2;obtain ⟨_,rfl⟩:=vbc (vai h);omega
   split at h
   . rename_i hs
     have:=za0 (by decide) hs;refine zj4 h ?_;intro s l2 h2
     split at h2
     . cases h2
     rename_i x l1 h1
     have:=zn3 h1;obtain ⟨_,rfl⟩:=vbc (vai h2);omega
   split at h
   . rename_i hs
     have:=za0 (by decide) hs;refine zj4 h ?_;intro s l2 h2
     split at h2
     . cases h2
     rename_i x l1 h1
     have:=zn3 h1;obtain ⟨_,rfl⟩:=vbc (vai h2);omega
   . exact zj4 h fun s l2 h2=>zxr h2
theorem zg8:∀ (f:Nat) (l l':List Tk) (b:List St),zb1 f l=some (b,l')->l'.length<l.length
 | 0,_,_,_,h=>by simp [zb1] at h
 | f + 1,l,l',s,h=>by
   unfold zb1 at h
   split at h
   . rename_i hs
     have:=za0 (by decide) hs;have:=zpo f _ _ _ _ h;omega
   . cases h
theorem zpo:∀ (f:Nat) (A7:List St) (l l':List Tk) (b:List St),zfj f A7 l=some (b,l')->l'.length<l.length
 | 0,_,_,_,_,h=>by simp [zfj] at h
 | f + 1,A7,l,l',b,h=>by
   unfold zfj at h
   split at h
   . rename_i hs
     obtain ⟨_,rfl⟩:=vbc (vai h);exact za0 (by decide) hs
   split at h
   . cases h
   . rename_i s l1 h1
     have:=ztb f _ _ _ h1;have:=zpo f _ _ _ _ h;omega
end
structure StC (R cap:Nat) (a:OA) (ts:List Tk) (f:Nat):Prop where
 stmt:∀ (l:List Tk) (w:World),Rd R a cap ts w l->3*l.length+1<=f->qc 254 #[pq R 0] w (zd8 R a cap ts w (zcy f l) (zfw (w.heap.size<=·)))
 block:∀ (l:List Tk) (w:World),Rd R a cap ts w l->3*l.length+1<=f->qc 201 #[pq R 0] w (zd8 R a cap ts w (zb1 f l) (z7s (w.heap.size<=·)))
theorem zut (R cap:Nat) (a:OA) (ts:List Tk) (f:Nat) (IH:∀ g,g<=f->StC R cap a ts g) (l:List Tk) (w:World) (h:Rd R a cap ts w l) (hf:3*l.length+1<=f+1) :
 qc 201 #[pq R 0] w (zd8 R a cap ts w (zb1 (f+1) l) (z7s (w.heap.size<=·))):=by
 have HI:Hid (∀ g,g<=f->StC R cap a ts g):=IH;have HR:Hid (Rd R a cap ts w l):=h;have CT:=h.lt
 have Jc:l.length<=4096:=by
  obtain ⟨k,_,rfl,_⟩:=h.idx;have:=h.len
  rw [vcl];omega
 clear IH h;go_enter Tryz.func201,Tryz.ntmps201;go_wp2_with fail;refine (zlk R cap _ a ts l tLb _ rfl HR.out (by decide)).mono ?_;rintro e w1 ⟨AJ,⟨hs,rfl⟩ | ⟨hs,rfl,AV⟩⟩
 . exact ⟨rfl,AJ,Or.inl ⟨by unfold zb1;rw [if_neg (by simp [hs])],rfl⟩⟩
 have Cz:=za0 (by decide) hs
 have HP:Hid (zb1 (f+1) l=zfj f [] l.tail):=by show zb1 (f+1) l=_;unfold zb1;rw [if_pos hs]
 have BI:Hid (Rd R a cap ts w1 l.tail):=AV;have AX:Hid (Keeps R w w1):=AJ;have Ao:=AJ.size;clear AV AJ hs;go_wp2_with fail
 go_loopw [3] (fun v wr=>∃ (g:Nat) (A7:List St) (l':List Tk),g<=f/\zb1 (f+1) l=zfj g A7 l'/\3*l'.length+2<=g/\A7.length+l'.length<=l.length/\Row w.heap.size 176 6 wr v A7.length (zby A7)/\Rd R a cap ts wr l'/\Keeps R w wr) (fun _ wr=>zll R ts.length wr)
 case atStart=>exact ⟨f,[],l.tail,vaa _,HP.out,by omega,by simp,Row.nil _ _ _ _,BI.out,AX.out⟩
 case round=>
  obtain ⟨g,A7,l',hg,hpm,Ai,hacc,Ab,D6,Bf⟩:=hrel;have HG:Hid (zb1 (f+1) l=zfj g A7 l'):=hpm;have HO:Hid (Row w.heap.size 176 6 wr u3 A7.length (zby A7)):=Ab;have HD:Hid (Rd R a cap ts wr l'):=D6;have HE:Hid (Keeps R w wr):=Bf;have BU:=Bf.size
  obtain ⟨g,rfl⟩:∃ g',g=g'+1:=⟨g - 1,by omega⟩
  clear hpm Ab D6 Bf HP;go_wp2_with fail
  by_cases hs:skB l' tRb=true
  . have HP:Hid (zb1 (f+1) l=some (A7,l'.tail)):=by show zb1 (f+1) l=_;rw [HG.out];unfold zfj;rw [if_pos hs]
    refine (zbl R cap a ts l' tRb wr (by decide) HD.out hs).mono ?_;rintro e w3 ⟨rfl,Av,At⟩;have EN:Hid (Row w.heap.size 176 6 w3 u3 A7.length (zby A7)):=HO.out.keeps At CT;go_wp2_with fail;go_ret;exact ⟨HE.out.trans At,Or.inr ⟨A7,l'.tail,_,HP.out,rfl,EN.out.slice,Av⟩⟩
  refine (zcf R cap a ts l' tRb wr HD.out (by simpa using hs)).mono ?_;rintro e w3 ⟨rfl,Av,At⟩;have BO:=At.size;go_wp2_with fail;refine ((HI.out g (by omega)).stmt l' w3 Av (by omega)).mono ?_;rintro e w4 ⟨Ay,⟨hn,rfl⟩ | ⟨y,l4,v,hn,rfl,⟨a1,c1,a2,c2,a3,c3,rfl,AK,AB,hx3,hx4,hx5⟩,AP⟩⟩
  . exact ⟨rfl,(HE.out.trans At).trans Ay,Or.inl ⟨by rw [HG.out];unfold zfj;rw [if_neg hs,hn],rfl⟩⟩
  have Fs:=ztb _ _ _ _ hn
  have HP:Hid (zb1 (f+1) l=zfj g (A7++[y]) l4):=by show zb1 (f+1) l=_;rw [HG.out];unfold zfj;rw [if_neg hs,hn];cases g<;>rfl
  have DJ:Hid (zat w4 (w3.heap.size<=·) y.ds (zxp y a1 c1 a2 c2 a3 c3)):=z0k AK AB hx3 hx4 hx5;have C2:Hid (Rd R a cap ts w4 l4):=AP;have BJ:Hid (Keeps R w w4):=(HE.out.trans At).trans Ay;have E8:Hid (Row w.heap.size 176 6 w4 u3 A7.length (zby A7)):=(HO.out.keeps At CT).keeps Ay CT;have D4:=Ay.size
  have HL:Hid (∀ k,u3.ownBlock=some k->k<w3.heap.size):=fun k hk=>((HO.out.keeps At CT).lt k hk).2
  have Ee:=HD.out.left;clear hn Av AP At Ay AK AB hx3 hx4 hx5 hs
  go_wp2_with (at_builtin;refine zbn rfl (.tmp 10) (.tmp 13) 25 rfl w.heap.size 176 _ 6 112 Tryz.underlying25 Tryz.infoP48 rfl (by decide) w4 u3 A7.length (zby A7) y.ds rfl E8.out _ _ rfl rfl rfl (w3.heap.size<=·) DJ.out ?_ (by omega) (by decide) (by omega) ?_)
  . intro b _ hb
    exact ⟨by omega,fun h=>by have:=HL.out b h;omega⟩
  . intro g5 c5 w5 Br Ar Cc
    have B5:Hid (Row w.heap.size 176 6 w5 (.slice (some (qa g5 0)) (A7.length+1) c5) (A7.length+1) (zby A7++y.ds)):=Br;have Bl:Hid (Rd R a cap ts w5 l4):=C2.out.belowOf HR.out Ar;have Ax:Hid (Keeps R w w5):=BJ.out.belowOf Ar;have G0:=Bl.out.left;clear Br Ar E8 C2 BJ DJ;go_wp2_with fail;go_roundw
    case rel=>exact ⟨g,A7++[y],l4,by omega,HP.out,by omega,by simp;omega,by rw [zkb,z0t,vak];exact B5.out,Bl.out,Ax.out⟩
    case measure=>rw [G0,Ee];omega
end Go.Proofs.YtndkhgakfodldaaGreatDoor
