import Derived.Test.YtndkhgakfodldaaGreatDoorCe
import Derived.BigQuiet
namespace Go.Proofs.YtndkhgakfodldaaGreatDoor
set_option maxRecDepth 100000
set_option maxHeartbeats 800000
open Go.RowKit
structure Keeps (R:Nat) (w w':World):Prop where
 os:w'.os=w.os
 tape:w'.tape=w.tape
 output:w'.output=w.output
 size:w.heap.size<=w'.heap.size
 block:∀ k,k<w.heap.size->k≠R->w'.heap[k]? = w.heap[k]?
theorem Keeps.refl (R:Nat) (w:World):Keeps R w w:=⟨rfl,rfl,rfl,vaa _,fun _ _ _=>rfl⟩
theorem Keeps.trans {R:Nat} {a b c:World} (h:Keeps R a b) (k:Keeps R b c):Keeps R a c:=
 ⟨k.os.trans h.os,k.tape.trans h.tape,k.output.trans h.output,vbc h.size k.size,fun i h1 h2=>(k.block i (vah h1 h.size) h2).trans (h.block i h1 h2)⟩
theorem Keeps.of_below {w w':World} (h:Below w.heap.size w w') (R:Nat):Keeps R w w':=⟨h.os,h.tape,h.output,h.size,fun k h1 _=>h.block k h1⟩
theorem Keeps.setCell (R:Nat) (w:World) (j:Nat) (u:Value):Keeps R w (w.setCell ⟨R,j,none⟩ u):=
 ⟨rfl,rfl,rfl,by rw [vaq];exact vaa _,fun k _ h2=>Below.heap_setCell w ⟨R,j,none⟩ u k h2⟩
theorem Keeps.stays {R lo:Nat} {w w':World} (h:Keeps R w w') (hR:R<lo):zfx lo w w':=⟨h.size,fun k h1 h2=>h.block k h2 (by omega)⟩
theorem Keeps.cell {R:Nat} {w w':World} (h:Keeps R w w') {b off:Nat} (h1:b<w.heap.size) (h2:b≠R):w'.cell? ⟨b,off,none⟩=w.cell? ⟨b,off,none⟩:=
 vei (w:=w) (h.block b h1 h2)
theorem Keeps.later {R:Nat} {w w1 w2:World} (h:Keeps R w w1) (hb:Below w1.heap.size w1 w2):Keeps R w w2:=h.trans (Keeps.of_below hb R)
theorem Keeps.alloc {R:Nat} {w w1:World} (h:Keeps R w w1) (o:Obj):Keeps R w (w1.alloc o):=h.later ((Below.refl _ _).alloc (vaa _) o)
theorem Keeps.own {R:Nat} {w w1:World} (h:Keeps R w w1) (j:Nat) (u:Value):Keeps R w (w1.setCell ⟨R,j,none⟩ u):=h.trans (Keeps.setCell R w1 j u)
theorem Keeps.set {R:Nat} {w w1:World} (h:Keeps R w w1) {p:Addr} (hp:w.heap.size<=p.block) (u:Value):Keeps R w (w1.setCell p u):=
 ⟨h.os,h.tape,h.output,by rw [vaq];exact h.size,fun k h1 h2=>(Below.heap_setCell w1 p u k (by omega)).trans (h.block k h1 h2)⟩
structure Rd (R:Nat) (a:OA) (cap:Nat) (ts:List Tk) (w:World) (l:List Tk):Prop where
 idx:∃ k:Nat,k<=ts.length/\l=ts.drop k/\w.heap[R]? = some (.cells #[.slice a ts.length cap,.int .i64 k] 239 (0,0))
 toks:zc2 w a ts
 ne:ts=[]\/∀ b off,a=some ⟨b,off,none⟩->b≠R
 len:ts.length<=4096
theorem zc2.keeps {R:Nat} {w w':World} {a:OA} {ts:List Tk} (h:zc2 w a ts) (hk:Keeps R w w') (hne:ts=[]\/∀ b off,a=some ⟨b,off,none⟩->b≠R):zc2 w' a ts:=by
 rcases hne with h0 | hne
 . exact Or.inl h0
 rcases h with h | ⟨b,off,ha,h⟩
 . exact Or.inl h
 . have hb:=hne b off ha
   have hl:=h.lt;exact Or.inr ⟨b,off,ha,vah hl hk.size,fun i hi=>(hk.cell hl hb).trans (h.kind i hi),fun i hi=>(hk.cell hl hb).trans (h.num i hi),fun i hi=>(hk.cell hl hb).trans (h.text i hi),h.fits⟩
section
variable {R cap:Nat} {a:OA} {ts l:List Tk} {w w':World}
theorem Rd.lt (h:Rd R a cap ts w l):R<w.heap.size:=by obtain ⟨k,_,_,hb⟩:=h.idx;exact lt_of_heap hb
theorem Rd.later (h:Rd R a cap ts w l) (hb:Below w.heap.size w w'):Rd R a cap ts w' l:=by
 obtain ⟨k,h1,h2,h3⟩:=h.idx;exact ⟨⟨k,h1,h2,(hb.block R (lt_of_heap h3)).trans h3⟩,h.toks.later hb,h.ne,h.len⟩
theorem Rd.at_ {l':List Tk} {j:Nat} (h:Rd R a cap ts w l) (hk:Keeps R w w') (hj:j<=ts.length) (hl:l'=ts.drop j) (hb:w'.heap[R]? = some (.cells #[.slice a ts.length cap,.int .i64 j] 239 (0,0))):Rd R a cap ts w' l':=
 ⟨⟨j,hj,hl,hb⟩,h.toks.keeps hk h.ne,h.ne,h.len⟩
theorem Rd.still (h:Rd R a cap ts w l) (hk:Keeps R w w') (hb:w'.heap[R]? = w.heap[R]?):Rd R a cap ts w' l:=by
 obtain ⟨k,h1,h2,h3⟩:=h.idx;exact ⟨⟨k,h1,h2,hb.trans h3⟩,h.toks.keeps hk h.ne,h.ne,h.len⟩
theorem Rd.set (h:Rd R a cap ts w l) {p:Addr} (hp:p.block≠R) (ht:∀ b off,a=some ⟨b,off,none⟩->p.block≠b) (u:Value):Rd R a cap ts (w.setCell p u) l:=by
 obtain ⟨k,h1,h2,h3⟩:=h.idx;refine ⟨⟨k,h1,h2,(Below.heap_setCell w p u R (Ne.symm hp)).trans h3⟩,?_,h.ne,h.len⟩
 rcases h.toks with h4 | ⟨b,off,ha,h4⟩
 . exact Or.inl h4
 . have e:∀ j,(w.setCell p u).cell? ⟨b,j,none⟩=w.cell? ⟨b,j,none⟩:=fun j=>vei (w:=w) (Below.heap_setCell w p u b (Ne.symm (ht b off ha)))
   exact Or.inr ⟨b,off,ha,by rw [vaq];exact h4.lt,fun i hi=>(e _).trans (h4.kind i hi),fun i hi=>(e _).trans (h4.num i hi),fun i hi=>(e _).trans (h4.text i hi),h4.fits⟩
theorem Rd.alloc (h:Rd R a cap ts w l) (o:Obj):Rd R a cap ts (w.alloc o) l:=h.later ((Below.refl _ _).alloc (vaa _) o)
theorem Rd.setAbove {w0:World} {l0:List Tk} (h:Rd R a cap ts w l) (h0:Rd R a cap ts w0 l0) {p:Addr} (hp:w0.heap.size<=p.block) (u:Value):Rd R a cap ts (w.setCell p u) l:=by
 refine ⟨?_,?_,h.ne,h.len⟩
 . obtain ⟨k,h1,h2,h3⟩:=h.idx
   exact ⟨k,h1,h2,(Below.heap_setCell w p u R (by have:=lt_of_heap h0.idx.choose_spec.2.2;omega)).trans h3⟩
 rcases h0.toks with h4 | ⟨b,off,ha,h4⟩
 . exact Or.inl h4
 . rcases h.toks with h5 | ⟨b',off',ha',h5⟩
   . exact Or.inl h5
   . have eq:b'=b:=by rw [ha] at ha';injection ha' with ha';injection ha' with e1 e2;exact e1.symm
     subst eq
     have e:∀ j,(w.setCell p u).cell? ⟨b',j,none⟩=w.cell? ⟨b',j,none⟩:=fun j=>vei (w:=w) (Below.heap_setCell w p u b' (by have:=h4.lt;omega))
     exact Or.inr ⟨b',off',ha',by rw [vaq];exact h5.lt,fun i hi=>(e _).trans (h5.kind i hi),fun i hi=>(e _).trans (h5.num i hi),fun i hi=>(e _).trans (h5.text i hi),h5.fits⟩
theorem Rd.adv {k:Nat} (h:Rd R a cap ts w (ts.drop k)) (hk:k<ts.length) (hb:w.heap[R]? = some (.cells #[.slice a ts.length cap,.int .i64 k] 239 (0,0))) :
 Rd R a cap ts (w.setCell ⟨R,1,none⟩ (.int .i64 ((k:Int)+1))) (ts.drop (k+1)):=by
 refine ⟨⟨k+1,by omega,rfl,?_⟩,h.toks.keeps (Keeps.setCell R w 1 _) h.ne,h.ne,h.len⟩;simp [World.setCell,Array.getElem?_modify,hb]
end
theorem zqs (R cap n:Nat) (a:OA) (ts l:List Tk) (w:World) (hn:n<=1) (h:Rd R a cap ts w l) :
 Calls Tryz.prog 252 #[.pointer (some ⟨R,0,none⟩),.int .i64 n] w fun e w'=>e = .returned (Tk.val (l.getD n noTk))/\Below w.heap.size w w':=by
 obtain ⟨k,hk,rfl,hb⟩:=h.idx
 have hc0:w.cell? ⟨R,0,none⟩=some (.slice a ts.length cap):=by rw [vef hb];rfl
 have hc1:w.cell? ⟨R,1,none⟩=some (.int .i64 k):=by rw [vef hb];rfl
 have hlt:=h.lt;have hlen:=h.len
 by_cases hkn:k+n<ts.length
 . have HV:Hid (Tk.val ((ts.drop k).getD n noTk) = .agg #[.int .i64 ts[k+n].kind,.int .i64 ts[k+n].n,.string ts[k+n].text]):=by
    show Tk.val _=_;rw [vay,vae (by rw [vbv];omega),Option.getD_some,vds]
    rfl
   obtain ⟨b,off,rfl,hT⟩:=h.toks.place hkn;have hd0:=hT.kind (k+n) hkn;have hd1:=hT.num (k+n) hkn;have hd2:=hT.text (k+n) hkn;have hbl:=hT.lt;clear hT h hb;go_enter Tryz.func252,Tryz.ntmps252;go_wp2_with fail
   go_quiet ((fail))
   go_wp2_with fail
   go_region
   go_wp2_with fail;refine bodyPost_ret (v:=.agg #[.int .i64 ts[k+n].kind,.int .i64 ts[k+n].n,.string ts[k+n].text]) (by simp [results,Tryz.results252,go_sem]) rfl ⟨by rw [HV.out],?_⟩;exact (((below_drewN ((Below.refl _ _).alloc (vaa _) _) _).setCell (p:=⟨w.heap.size,0,none⟩) (vaa _) _).setCell (p:=⟨w.heap.size,1,none⟩) (vaa _) _).setCell (p:=⟨w.heap.size,2,none⟩) (vaa _) _
 . have HV:Hid (Tk.val ((ts.drop k).getD n noTk) = .agg #[.int .i64 0,.int .i64 0,.string ⟨#[]⟩]):=by
    show Tk.val _=_;rw [vay,vbq (by rw [vbv];omega)]
    rfl
   clear h hb;go_enter Tryz.func252,Tryz.ntmps252;go_wp2_with fail
   go_quiet ((fail))
   go_wp2_with fail;refine bodyPost_ret (v:=.agg #[.int .i64 0,.int .i64 0,.string ⟨#[]⟩]) (by simp [results,Tryz.results252,go_sem]) rfl ⟨by rw [HV.out],?_⟩;exact (((below_drewN ((Below.refl _ _).alloc (vaa _) _) _).setCell (p:=⟨w.heap.size,0,none⟩) (vaa _) _).setCell (p:=⟨w.heap.size,1,none⟩) (vaa _) _).setCell (p:=⟨w.heap.size,2,none⟩) (vaa _) _
set_option maxHeartbeats 1600000
theorem z5h {ts:List Tk} {k:Nat} (h:k<ts.length):hd (ts.drop k)=ts[k]:=by
 unfold hd;rw [vay,vae (by rw [vbv];omega),Option.getD_some,vds]
 rfl
theorem z33 {ts:List Tk} {k:Nat} (h:¬ k<ts.length):hd (ts.drop k)=noTk:=by
 rw [vct (by omega)];rfl
theorem z83 {ts:List Tk} {k:Nat} {t:ByteArray} (ht:0<t.size) (h:skB (ts.drop k) t=true):k<ts.length:=by
 by_cases hk:k<ts.length
 . exact hk
 . unfold skB at h
   rw [z33 hk,vax,vax] at h
   have:t.data.toList=[]:=by simpa [noTk] using (beq_iff_eq.1 h).symm
   have:=Lx.zaz t;simp_all
theorem zqt (R cap:Nat) (a:OA) (ts l:List Tk) (w:World) (h:Rd R a cap ts w l) :
 Calls Tryz.prog 252 #[.pointer (some ⟨R,0,none⟩),.int .i64 0] w fun e w'=>e = .returned (.agg #[.int .i64 (hd l).kind,.int .i64 (hd l).n,.string (hd l).text])/\Below w.heap.size w w':=
 zqs R cap 0 a ts l w (by omega) h
theorem z34 (k n:Int) (t:ByteArray):∀ w:World,(Instr.field 184 (.agg #[.int .i64 k,.int .i64 n,.string t]) 0).run Tryz.prog w = .ok (.int .i64 k) w:=fun _=>by kernel_rfl
theorem zuq (k n:Int) (t:ByteArray):∀ w:World,(Instr.field 184 (.agg #[.int .i64 k,.int .i64 n,.string t]) 2).run Tryz.prog w = .ok (.string t) w:=fun _=>by kernel_rfl
theorem zbl (R cap:Nat) (a:OA) (ts l:List Tk) (t:ByteArray) (w:World) (ht:0<t.size) (h:Rd R a cap ts w l) (hs:skB l t=true) :
 Calls Tryz.prog 197 #[.pointer (some ⟨R,0,none⟩),.string t] w fun e w'=>e = .returned (.bool true)/\Rd R a cap ts w' l.tail/\Keeps R w w':=by
 obtain ⟨k,hk,rfl,hb⟩:=h.idx;have hlt:=z83 ht hs;have HR:Hid (Rd R a cap ts w (ts.drop k)):=h;have HA:Hid (Calls Tryz.prog 252 #[.pointer (some ⟨R,0,none⟩),.int .i64 0] w fun e w'=>e = .returned (.agg #[.int .i64 (hd (ts.drop k)).kind,.int .i64 (hd (ts.drop k)).n,.string (hd (ts.drop k)).text])/\Below w.heap.size w w'):=zqt R cap a ts (ts.drop k) w h
 have HT:Hid ((ts.drop k).tail=ts.drop (k+1)):=by show List.tail _=_;rw [List.tail_drop]
 have hl4:=h.len;have hs':((hd (ts.drop k)).text.toList == t.toList)=true:=hs;have HB:Hid (w.heap[R]? = some (.cells #[.slice a ts.length cap,.int .i64 k] 239 (0,0))):=hb;clear h hs hb;generalize hd (ts.drop k)=T at *;have hf2:=zuq T.kind T.n T.text;go_enter Tryz.func197,Tryz.ntmps197;go_wp2_with fail;refine HA.out.mono ?_;rintro e w1 ⟨rfl,hb1⟩;have HB1:Hid (w1.heap[R]? = some (.cells #[.slice a ts.length cap,.int .i64 k] 239 (0,0))):=(hb1.block R HR.out.lt).trans HB.out
 have hc1:w1.cell? ⟨R,1,none⟩=some (.int .i64 k):=by rw [vef HB1.out];rfl
 have hf1:w1.frozen? ⟨R,1,none⟩=false:=veg HB1.out 1;clear HA;go_wp2_with fail;go_ret;refine ⟨rfl,?_,(Keeps.of_below hb1 R).trans (Keeps.setCell R w1 1 _)⟩;rw [HT.out];exact (HR.out.later hb1).adv hlt HB1.out
theorem zb2 (R cap:Nat) (a:OA) (ts l:List Tk) (t:ByteArray) (w:World) (h:Rd R a cap ts w l) (hs:skB l t=false) :
 Calls Tryz.prog 197 #[.pointer (some ⟨R,0,none⟩),.string t] w fun e w'=>e = .returned (.bool false)/\Rd R a cap ts w' l/\Keeps R w w':=by
 have HR:Hid (Rd R a cap ts w l):=h;have HA:Hid (Calls Tryz.prog 252 #[.pointer (some ⟨R,0,none⟩),.int .i64 0] w fun e w'=>e = .returned (.agg #[.int .i64 (hd l).kind,.int .i64 (hd l).n,.string (hd l).text])/\Below w.heap.size w w'):=zqt R cap a ts l w h;have hs':((hd l).text.toList == t.toList)=false:=hs;clear h hs;generalize hd l=T at *;have hf2:=zuq T.kind T.n T.text;go_enter Tryz.func197,Tryz.ntmps197;go_wp2_with fail;refine HA.out.mono ?_;rintro e w1 ⟨rfl,hb1⟩;clear HA;go_wp2_with fail;go_ret;exact ⟨rfl,HR.out.later hb1,Keeps.of_below hb1 R⟩
theorem take_any (R cap:Nat) (a:OA) (ts l:List Tk) (w:World) (h:Rd R a cap ts w l) :
 Calls Tryz.prog 251 #[.pointer (some ⟨R,0,none⟩)] w fun e w'=>e = .returned (.agg #[.int .i64 (hd l).kind,.int .i64 (hd l).n,.string (hd l).text])/\(l≠[]->Rd R a cap ts w' l.tail)/\Keeps R w w':=by
 obtain ⟨k,hk,rfl,hb⟩:=h.idx;have HR:Hid (Rd R a cap ts w (ts.drop k)):=h;have hl4:=h.len
 have HN:Hid (ts.drop k≠[]->k<ts.length):=fun hne=>by
  by_cases hk:k<ts.length
  . exact hk
  . exact absurd (vct (by omega)) hne
 have HT:Hid ((ts.drop k).tail=ts.drop (k+1)):=by show List.tail _=_;rw [List.tail_drop]
 have HB:Hid (w.heap[R]? = some (.cells #[.slice a ts.length cap,.int .i64 k] 239 (0,0))):=hb
 have HA:Hid (∀ w:World,Rd R a cap ts w (ts.drop k)->Calls Tryz.prog 252 #[.pointer (some ⟨R,0,none⟩),.int .i64 0] w fun e w'=>e = .returned (.agg #[.int .i64 (hd (ts.drop k)).kind,.int .i64 (hd (ts.drop k)).n,.string (hd (ts.drop k)).text])/\Below w.heap.size w w'):=fun w h=>zqt R cap a ts (ts.drop k) w h
 clear h hb;generalize hd (ts.drop k)=T at *;go_enter Tryz.func251,Tryz.ntmps251;go_wp2_with fail;refine (HA.out _ (HR.out.later ((Below.refl _ _).alloc (vaa _) _))).mono ?_;rintro e w1 ⟨rfl,hb1⟩;have hb0:Below w.heap.size w w1:=((Below.refl _ _).alloc (vaa _) _).trans (hb1.mono (by simp));have hrl:=HR.out.lt;have hz1:=hb1.size;simp at hz1;have HB1:Hid (w1.heap[R]? = some (.cells #[.slice a ts.length cap,.int .i64 k] 239 (0,0))):=(hb0.block R hrl).trans HB.out
 have hc1:w1.cell? ⟨R,1,none⟩=some (.int .i64 k):=by rw [vef HB1.out];rfl
 have hf1:w1.frozen? ⟨R,1,none⟩=false:=veg HB1.out 1;have hcw:w1.heap[w.heap.size]? = some (.cells #[.int .i64 0,.int .i64 0,.string ⟨#[]⟩] 184):=(hb1.block w.heap.size (by simp)).trans (_root_.Go.heap_alloc_new w _)
 have hd0:w1.cell? ⟨w.heap.size,0,none⟩=some (.int .i64 0):=by rw [vef hcw];rfl
 have hd1:w1.cell? ⟨w.heap.size,1,none⟩=some (.int .i64 0):=by rw [vef hcw];rfl
 have hd2:w1.cell? ⟨w.heap.size,2,none⟩=some (.string ⟨#[]⟩):=by rw [vef hcw];rfl
 have hg0:w1.frozen? ⟨w.heap.size,0,none⟩=false:=veg hcw 0;have hg1:w1.frozen? ⟨w.heap.size,1,none⟩=false:=veg hcw 1;have hg2:w1.frozen? ⟨w.heap.size,2,none⟩=false:=veg hcw 2;clear hcw
 have hRl:R<w1.heap.size:=by omega
 have hwl:w.heap.size<w1.heap.size:=by omega
 have hne:w.heap.size≠R:=by omega
 go_wp2_with fail;refine bodyPost_ret (v:=.agg #[.int .i64 T.kind,.int .i64 T.n,.string T.text]) (by simp [results,Tryz.results251,go_sem,hd0,hd1,hd2,hwl]) rfl ⟨rfl,fun hne'=>?_,?_⟩
 . rw [HT.out]
   exact (((((HR.out.later hb0).adv (HN.out hne') HB1.out).setAbove HR.out (vaa _) _).setAbove HR.out (vaa _) _).setAbove HR.out (vaa _) _).alloc _
 . exact ((((Keeps.of_below hb0 R).own 1 _).set (vaa _) _).set (vaa _) _).set (vaa _) _ |>.alloc _
theorem zkw (s:ByteArray) (w:World) :
 Calls Tryz.prog 237 #[.string s] w fun e w'=>e = .returned (.bool (zn3 s))/\w'=w:=by
 go_enter Tryz.func237,Tryz.ntmps237;go_wp2_with fail
 all_goals go_ret
 all_goals exact ⟨ret_bool (by simp_all [zn3,z4j]),rfl⟩
def zd4 {α:Type} (R:Nat) (a:OA) (cap:Nat) (ts:List Tk) (w:World) (r:Option (α × List Tk)) (rep:α->World->Value->Prop) (e:Ending) (w':World):Prop:=
 Keeps R w w'/\((r=none/\e = .panicked zag)\/∃ x l v,r=some (x,l)/\e = .returned v/\rep x w' v/\Rd R a cap ts w' l)
theorem Rd.fit {R cap:Nat} {a:OA} {ts l:List Tk} {w:World} (h:Rd R a cap ts w l):(hd l).text.size<=maxLen:=by
 obtain ⟨k,hk,rfl,hb⟩:=h.idx
 by_cases hlt:k<ts.length
 . rw [z5h hlt]
   obtain ⟨b,off,_,hT⟩:=h.toks.place hlt;exact hT.fits k hlt
 . rw [z33 hlt];exact vag _
theorem zbv (R cap:Nat) (a:OA) (ts l:List Tk) (w:World) (h:Rd R a cap ts w l) :
 Calls Tryz.prog 196 #[.pointer (some ⟨R,0,none⟩)] w (zd4 R a cap ts w (zde l) fun x _ v=>v = .string x/\x.size<=maxLen):=by
 have HT:Hid (Calls Tryz.prog 251 #[.pointer (some ⟨R,0,none⟩)] w fun e w'=>e = .returned (.agg #[.int .i64 (hd l).kind,.int .i64 (hd l).n,.string (hd l).text])/\(l≠[]->Rd R a cap ts w' l.tail)/\Keeps R w w'):=take_any R cap a ts l w h;have HF:Hid ((hd l).text.size<=maxLen):=h.fit;go_enter Tryz.func196,Tryz.ntmps196;go_wp2_with fail;refine HT.out.mono ?_;rintro e w1 ⟨rfl,HR1,HK1⟩
 by_cases hk:(hd l).kind=1
 . have HN:Hid (zde l=if !zn3 (hd l).text then some ((hd l).text,l.tail) else none):=by show zde l=_;unfold zde;simp [hk]
   have HL:Hid (l≠[]):=zj8 (by rw [hk];decide)
   by_cases hp:zn3 (hd l).text=true
   . go_wp2_with (go_at_call 237;refine (zkw _ _).mono ?_;rintro e w' ⟨rfl,rfl⟩)
     exact ⟨rfl,HK1.alloc _,Or.inl ⟨by rw [HN.out,hp];rfl,rfl⟩⟩
   . have hp':zn3 (hd l).text=false:=by simpa using hp
     clear hp
     go_wp2_with (go_at_call 237;refine (zkw _ _).mono ?_;rintro e w' ⟨rfl,rfl⟩)
     go_ret;exact ⟨HK1.alloc _,Or.inr ⟨_,_,_,by rw [HN.out,hp'];rfl,rfl,⟨rfl,HF.out⟩,(HR1 HL.out).alloc _⟩⟩
 . have HN:Hid (zde l=none):=by show zde l=_;unfold zde;simp [hk]
   go_wp2_with fail;exact ⟨rfl,HK1.alloc _,Or.inl ⟨HN.out,rfl⟩⟩
theorem zg9 (R cap:Nat) (a:OA) (ts l:List Tk) (w:World) (h:Rd R a cap ts w l) :
 Calls Tryz.prog 253 #[.pointer (some ⟨R,0,none⟩)] w (zd4 R a cap ts w (pNum l) fun x _ v=>v = .int .i64 x):=by
 have HT:Hid (Calls Tryz.prog 251 #[.pointer (some ⟨R,0,none⟩)] w fun e w'=>e = .returned (.agg #[.int .i64 (hd l).kind,.int .i64 (hd l).n,.string (hd l).text])/\(l≠[]->Rd R a cap ts w' l.tail)/\Keeps R w w'):=take_any R cap a ts l w h;go_enter Tryz.func253,Tryz.ntmps253;go_wp2_with fail;refine HT.out.mono ?_;rintro e w1 ⟨rfl,HR1,HK1⟩
 by_cases hk:(hd l).kind=2
 . have HN:Hid (pNum l=some ((hd l).n,l.tail)):=by show pNum l=_;unfold pNum;simp [hk]
   have HL:Hid (l≠[]):=zj8 (by rw [hk];decide);go_wp2_with fail;go_ret;exact ⟨HK1.alloc _,Or.inr ⟨_,_,_,HN.out,rfl,rfl,(HR1 HL.out).alloc _⟩⟩
 . have HN:Hid (pNum l=none):=by show pNum l=_;unfold pNum;simp [hk]
   go_wp2_with fail;exact ⟨rfl,HK1.alloc _,Or.inl ⟨HN.out,rfl⟩⟩
theorem zy6 {α:Type} {p:α->Bool}:∀ {l:List α},(l.take l.length).all (fun x=>!p x)=true->l.find? p=none:=by
 intro l h;rw [vau] at h;rw [List.find?_eq_none];intro x hx;have:=vas.1 h x hx;simpa using this
theorem zsu {α:Type} {p:α->Bool}:∀ {l:List α} {k:Nat} (hk:k<l.length),(l.take k).all (fun x=>!p x)=true->p l[k]=true->l.find? p=some l[k]
 | [],k,hk,_,_=>by simp at hk
 | x :: r,0,hk,_,h=>by simp at h;simp [h]
 | x :: r,k+1,hk,ha,h=>by
   simp only [List.take_succ_cons,vcr,vac] at ha
   have hx:p x=false:=by simpa using ha.1
   rw [vcq,hx];exact zsu (by simpa using hk) ha.2 h
theorem zjy (R cap b c:Nat) (a:OA) (ts l:List Tk) (texts:List ByteArray) (w:World) (h:Rd R a cap ts w l) (hb:b<w.heap.size) (hbR:b≠R) (hn:texts.length<=100)
 (hc:∀ i (h:i<texts.length),w.cell? ⟨b,i,none⟩=some (.string texts[i])) (hp:∀ i (h:i<texts.length),0<texts[i].size) :
 Calls Tryz.prog 195 #[.pointer (some ⟨R,0,none⟩),.slice (some ⟨b,0,none⟩) texts.length c] w (zd4 R a cap ts w ((zjg l texts).map fun t=>(t,l.tail)) fun x _ v=>v = .string x):=by
 have HR:Hid (Rd R a cap ts w l):=h;have HC:Hid (∀ i (h:i<texts.length),w.cell? ⟨b,i,none⟩=some (.string texts[i])):=hc;have HP:Hid (∀ i (h:i<texts.length),0<texts[i].size):=hp;clear h hc hp;go_enter Tryz.func195,Tryz.ntmps195;go_wp2_with fail
 go_loopw [9,6] (fun i _ wr=>∃ k:Nat,k<=texts.length/\i = .int .i64 k/\(texts.take k).all (fun t=>!skB l t)=true/\Rd R a cap ts wr l/\Keeps R w wr) (fun i _ _=>texts.length - (intOf i).toNat)
 case atStart=>exact ⟨0,vag _,rfl,rfl,HR.out,Keeps.refl _ _⟩
 case round=>
  obtain ⟨k,hk,rfl,hall,hrd,hke⟩:=hrel;have HA:Hid ((texts.take k).all (fun t=>!skB l t)=true):=hall;have HD:Hid (Rd R a cap ts wr l):=hrd;clear hall hrd
  by_cases hlt:k<texts.length
  . have hck:wr.cell? ⟨b,k,none⟩=some (.string texts[k]):=(hke.cell hb hbR).trans (HC.out k hlt)
    by_cases hs:skB l texts[k]=true
    . have HS:Hid (Calls Tryz.prog 197 #[.pointer (some ⟨R,0,none⟩),.string texts[k]] wr fun e w'=>e = .returned (.bool true)/\Rd R a cap ts w' l.tail/\Keeps R wr w'):=zbl R cap a ts l texts[k] wr (HP.out k hlt) HD.out hs
      have HM:Hid (zjg l texts=some texts[k]):=zsu hlt HA.out hs
      go_wp2_with (go_at_call 197;refine HS.out.mono ?_;rintro e w2 ⟨rfl,HR2,HK2⟩)
      go_ret;exact ⟨hke.trans HK2,Or.inr ⟨_,_,_,by rw [HM.out];rfl,rfl,rfl,HR2⟩⟩
    . have hs':skB l texts[k]=false:=by simpa using hs
      have HS:Hid (Calls Tryz.prog 197 #[.pointer (some ⟨R,0,none⟩),.string texts[k]] wr fun e w'=>e = .returned (.bool false)/\Rd R a cap ts w' l/\Keeps R wr w'):=zb2 R cap a ts l texts[k] wr HD.out hs'
      go_wp2_with (go_at_call 197;refine HS.out.mono ?_;rintro e w2 ⟨rfl,HR2,HK2⟩)
      go_roundw
      case rel=>exact ⟨k+1,by omega,by go_num,by rw [all_snoc texts _ k hlt,HA.out,hs'];rfl,HR2,hke.trans HK2⟩
      case measure=>simp [intOf];omega
  . have hke':k=texts.length:=by omega
    subst hke';have HM:Hid (zjg l texts=none):=zy6 HA.out;go_wp2_with fail;exact ⟨rfl,hke,Or.inl ⟨by rw [HM.out];rfl,rfl⟩⟩
theorem zfk (R cap n:Nat) (a:OA) (ts l:List Tk) (t:ByteArray) (w:World) (hn:n=w.heap.size) (h:Rd R a cap ts w l) (ht:0<t.size) :
 Calls Tryz.prog 195 #[.pointer (some ⟨R,0,none⟩),.slice (some ⟨n,0,none⟩) 1 1] (w.alloc (.cells #[.string t] 9)) fun e w'=>Keeps R w w'/\((skB l t=false/\e = .panicked zag)\/(skB l t=true/\e = .returned (.string t)/\Rd R a cap ts w' l.tail)):=by
 have hlt:=h.lt;subst hn;refine (zjy R cap w.heap.size 1 a ts l [t] _ (h.alloc _) (by simp) (by omega) (by simp) (fun i hi=>?_) (fun i hi=>?_)).mono ?_
 . obtain rfl:i=0:=by simp at hi;omega
   simp
 . obtain rfl:i=0:=by simp at hi;omega
   exact ht
 . rintro e w' ⟨hk,hr⟩
   refine ⟨((Keeps.refl R w).alloc _).trans hk,?_⟩
   have hm:zjg l [t]=if skB l t then some t else none:=by unfold zjg;rw [vcq];cases skB l t<;>rfl
   rw [hm] at hr
   cases hs:skB l t
   . rw [hs] at hr
     rcases hr with ⟨_,rfl⟩ | ⟨x,l',v,hr,_⟩
     . exact Or.inl ⟨rfl,rfl⟩
     . simp at hr
   . rw [hs] at hr
     rcases hr with ⟨hr,_⟩ | ⟨x,l',v,hr,rfl,rfl,hR⟩
     . simp at hr
     . simp at hr
       obtain ⟨rfl,rfl⟩:=hr;exact Or.inr ⟨rfl,rfl,hR⟩
theorem zot (R cap:Nat) (a:OA) (ts l:List Tk) (t:ByteArray) (w:World) (ht:0<t.size) (h:Rd R a cap ts w l) :
 Calls Tryz.prog 197 #[.pointer (some ⟨R,0,none⟩),.string t] w fun e w'=>e = .returned (.bool (skB l t))/\Rd R a cap ts w' (if skB l t then l.tail else l)/\Keeps R w w':=by
 cases hs:skB l t
 . exact zb2 R cap a ts l t w h hs
 . exact zbl R cap a ts l t w ht h hs
set_option maxHeartbeats 800000
theorem heap_set {w:World} {b i:Nat} {cs:Array Value} {t:TypeId} {f:Nat × Nat} (h:w.heap[b]? = some (.cells cs t f)) (u:Value):(w.setCell ⟨b,i,none⟩ u).heap[b]? = some (.cells (cs.setIfInBounds i u) t f):=by
 simp [World.setCell,Array.getElem?_modify,h]
theorem heap_set_ne {w:World} {b:Nat} {p:Addr} (h:b≠p.block) (u:Value):(w.setCell p u).heap[b]? = w.heap[b]?:=Below.heap_setCell w p u b h
theorem zab {w:World} {b:Nat} {x o:Obj} (h:w.heap[b]? = some x):(w.alloc o).heap[b]? = some x:=((Below.refl w.heap.size w).alloc (vaa _) o |>.block b (lt_of_heap h)).trans h
theorem heap_newP (w:World) (o:Obj):(w.alloc o).heap[w.heap.size]? = some o:=_root_.Go.heap_alloc_new w o
theorem zaa {w:World} {b:Nat} {x0 x1 x2 x3 x4:Value} {t:TypeId} (h:w.heap[b]? = some (.cells #[x0,x1,x2,x3,x4] t (0,0))) :
 w.cell? ⟨b,0,none⟩=some x0/\w.cell? ⟨b,1,none⟩=some x1/\w.cell? ⟨b,2,none⟩=some x2/\w.cell? ⟨b,3,none⟩=some x3/\w.cell? ⟨b,4,none⟩=some x4/\∀ i,w.frozen? ⟨b,i,none⟩=false:=by
 refine ⟨?_,?_,?_,?_,?_,fun i=>veg h i⟩<;>(rw [vef h];rfl)
theorem zam {w:World} {b:Nat} {x0 x1 x2 x3 x4 x5:Value} {t:TypeId} (h:w.heap[b]? = some (.cells #[x0,x1,x2,x3,x4,x5] t (0,0))) :
 w.cell? ⟨b,0,none⟩=some x0/\w.cell? ⟨b,1,none⟩=some x1/\w.cell? ⟨b,2,none⟩=some x2/\w.cell? ⟨b,3,none⟩=some x3/\w.cell? ⟨b,4,none⟩=some x4/\w.cell? ⟨b,5,none⟩=some x5/\∀ i,w.frozen? ⟨b,i,none⟩=false:=by
 refine ⟨?_,?_,?_,?_,?_,?_,fun i=>veg h i⟩<;>(rw [vef h];rfl)
theorem zcj {w:World} {b:Nat} {x0 x1 x2 x3:Value} {t:TypeId} (h:w.heap[b]? = some (.cells #[x0,x1,x2,x3] t (0,0))) :
 w.cell? ⟨b,0,none⟩=some x0/\w.cell? ⟨b,1,none⟩=some x1/\w.cell? ⟨b,2,none⟩=some x2/\w.cell? ⟨b,3,none⟩=some x3/\∀ i,w.frozen? ⟨b,i,none⟩=false:=by
 refine ⟨?_,?_,?_,?_,fun i=>veg h i⟩<;>(rw [vef h];rfl)
theorem zad.keeps {R:Nat} {w w1 w2:World} {A A':Nat->Prop} (h:zad w A w1 A') (hk:Keeps R w1 w2) (hR:∀ b,b<w.heap.size->A b->b≠R):zad w A w2 A':=
 ⟨vbc h.1 hk.size,fun b hb ha=>⟨(h.2 b hb ha).1,(hk.block b (vah hb h.1) (hR b hb ha)).trans (h.2 b hb ha).2⟩⟩
theorem zad.set {w w1:World} {A A':Nat->Prop} (h:zad w A w1 A') {p:Addr} (hp:∀ b,b<w.heap.size->A b->b≠p.block) (u:Value):zad w A (w1.setCell p u) A':=
 ⟨by rw [vaq];exact h.1,fun b hb ha=>⟨(h.2 b hb ha).1,(Below.heap_setCell w1 p u b (hp b hb ha)).trans (h.2 b hb ha).2⟩⟩
theorem zad.to {w w1:World} {lo lo':Nat} (h:zad w (lo<=·) w1 (lo<=·)) (hl:lo'<=lo):zad w (lo<=·) w1 (lo'<=·):=h.trans (zad.lower hl)
theorem Keeps.drew {R:Nat} {w w1:World} (h:Keeps R w w1):Keeps R w w1.drew:=⟨h.os,h.tape,h.output,h.size,h.block⟩
theorem Rd.drew {R cap:Nat} {a:OA} {ts l:List Tk} {w:World} (h:Rd R a cap ts w l):Rd R a cap ts w.drew l:=h.still (Keeps.refl R w).drew rfl
theorem zad.drew {w w1:World} {A A':Nat->Prop} (h:zad w A w1 A'):zad w A w1.drew A':=⟨h.1,h.2⟩
abbrev set5 (w:World) (b:Nat) (v0 v1 v2 v3 v4:Value):World:=((((w.setCell ⟨b,0,none⟩ v0).setCell ⟨b,1,none⟩ v1).setCell ⟨b,2,none⟩ v2).setCell ⟨b,3,none⟩ v3).setCell ⟨b,4,none⟩ v4
abbrev set6 (w:World) (b:Nat) (v0 v1 v2 v3 v4 v5:Value):World:=(set5 w b v0 v1 v2 v3 v4).setCell ⟨b,5,none⟩ v5
section
variable {R cap b:Nat} {w w0 w1:World} {a:OA} {ts l l0:List Tk} {A A':Nat->Prop}
theorem Keeps.set5 (h:Keeps R w w1) (hp:w.heap.size<=b) (v0 v1 v2 v3 v4:Value):Keeps R w (set5 w1 b v0 v1 v2 v3 v4):=((((h.set hp v0).set hp v1).set hp v2).set hp v3).set hp v4
theorem Keeps.set6 (h:Keeps R w w1) (hp:w.heap.size<=b) (v0 v1 v2 v3 v4 v5:Value):Keeps R w (set6 w1 b v0 v1 v2 v3 v4 v5):=(h.set5 hp v0 v1 v2 v3 v4).set hp v5
theorem Rd.set5 (h:Rd R a cap ts w1 l) (h0:Rd R a cap ts w0 l0) (hp:w0.heap.size<=b) (v0 v1 v2 v3 v4:Value):Rd R a cap ts (set5 w1 b v0 v1 v2 v3 v4) l:=((((h.setAbove h0 hp v0).setAbove h0 hp v1).setAbove h0 hp v2).setAbove h0 hp v3).setAbove h0 hp v4
theorem Rd.set6 (h:Rd R a cap ts w1 l) (h0:Rd R a cap ts w0 l0) (hp:w0.heap.size<=b) (v0 v1 v2 v3 v4 v5:Value):Rd R a cap ts (set6 w1 b v0 v1 v2 v3 v4 v5) l:=(h.set5 h0 hp v0 v1 v2 v3 v4).setAbove h0 hp v5
theorem zad.set5 (h:zad w A w1 A') (hp:∀ k,k<w.heap.size->A k->k≠b) (v0 v1 v2 v3 v4:Value):zad w A (set5 w1 b v0 v1 v2 v3 v4) A':=((((h.set hp v0).set hp v1).set hp v2).set hp v3).set hp v4
theorem zad.set6 (h:zad w A w1 A') (hp:∀ k,k<w.heap.size->A k->k≠b) (v0 v1 v2 v3 v4 v5:Value):zad w A (set6 w1 b v0 v1 v2 v3 v4 v5) A':=(h.set5 hp v0 v1 v2 v3 v4).set hp v5
end
def zgs (A:Nat->Prop) (x:Ex) (w:World) (v:Value):Prop:=∃ a cap,v = .agg #[.int .i64 x.op,.int .i64 x.n,.string x.mod,.string x.name,.slice a x.args.length cap]/\x.mod.size<=maxLen/\x.name.size<=maxLen/\EAt w A a x.args.length (zbo x.args)
def zfl (x:Ex) (a:OA) (cap:Nat):List Value:=[.int .i64 x.op,.int .i64 x.n,.string x.mod,.string x.name,.slice a x.args.length cap]
theorem zfm {A:Nat->Prop} {x:Ex} {w:World} {a:OA} {cap:Nat} (h1:x.mod.size<=maxLen) (h2:x.name.size<=maxLen) (h3:EAt w A a x.args.length (zbo x.args)):zau w A x.ds (zfl x a cap):=by
 cases x
 unfold Ex.ds;exact .cons zpw (.cons zpw (.cons (zxa h1) (.cons (zxa h2) (.cons h3.val .nil))))
theorem zkx {A A':Nat->Prop} {x:Ex} {w w':World} {a:OA} {cap g:Nat} {t:TypeId} (h1:x.mod.size<=maxLen) (h2:x.name.size<=maxLen) (h3:EAt w A a x.args.length (zbo x.args))
 (hm:zad w A w' A') (hg:w'.heap[g]? = some (.cells #[.int .i64 x.op,.int .i64 x.n,.string x.mod,.string x.name,.slice a x.args.length cap] t (0,0))) (hA:A' g):EAt w' A' (some ⟨g,0,none⟩) 1 (zbo [x]):=by
 rw [zjz];refine Or.inr ⟨g,0,zfl x a cap,rfl,hA,lt_of_heap hg,fun j u hj=>?_,zfm h1 h2 (h3.moves hm)⟩;rw [vba,vef hg];simpa [zfl] using hj
theorem z7h {A B A':Nat->Prop} {x y:Ex} {w u w':World} {a b:OA} {cap dap g:Nat} {t:TypeId} (h:x.mod.size<=maxLen/\x.name.size<=maxLen/\EAt w A a x.args.length (zbo x.args)) (k:y.mod.size<=maxLen/\y.name.size<=maxLen/\EAt u B b y.args.length (zbo y.args))
 (hm:zad w A w' A') (km:zad u B w' A') (hg:w'.heap[g]? = some (.cells #[.int .i64 x.op,.int .i64 x.n,.string x.mod,.string x.name,.slice a x.args.length cap,.int .i64 y.op,.int .i64 y.n,.string y.mod,.string y.name,.slice b y.args.length dap] t (0,0))) (hA:A' g):EAt w' A' (some ⟨g,0,none⟩) 2 (zbo [x,y]):=by
 have e:zbo [x,y]=x.ds++y.ds:=by simp [zbo]
 rw [e];refine Or.inr ⟨g,0,zfl x a cap++zfl y b dap,rfl,hA,lt_of_heap hg,fun j u hj=>?_,(zfm h.1 h.2.1 (h.2.2.moves hm)).append (zfm k.1 k.2.1 (k.2.2.moves km))⟩;rw [vba,vef hg];simpa [zfl] using hj
theorem zy7 (R cap:Nat) (a:OA) (ts l:List Tk) (w:World) (h:Rd R a cap ts w l) :
 Calls Tryz.prog 294 #[.pointer (some ⟨R,0,none⟩)] w (zd4 R a cap ts w (zw7 l) fun x _ v=>v = .tuple #[.string x.1,.string x.2]/\x.1.size<=maxLen/\x.2.size<=maxLen):=by
 have HN:Hid (Calls Tryz.prog 196 #[.pointer (some ⟨R,0,none⟩)] w (zd4 R a cap ts w (zde l) fun x _ v=>v = .string x/\x.size<=maxLen)):=zbv R cap a ts l w h;clear h;go_enter Tryz.func294,Tryz.ntmps294;go_wp2_with fail;refine HN.out.mono ?_;rintro e w1 ⟨HK1,⟨hn,rfl⟩ | ⟨x,l1,v,hn,rfl,⟨rfl,hx⟩,HR1⟩⟩
 . exact ⟨rfl,HK1,Or.inl ⟨by unfold zw7;rw [hn],rfl⟩⟩
 have HN1:Hid (zde l=some (x,l1)):=hn;have HD:Hid (Rd R a cap ts w1 l1):=HR1;clear HN hn HR1;go_wp2_with fail
 by_cases hs:skB l1 z4i=true
 . refine (zbl R cap a ts l1 z4i w1 (by decide) HD.out hs).mono ?_
   rintro e w2 ⟨rfl,HR2,HK2⟩;go_wp2_with fail;refine (zbv R cap a ts l1.tail w2 HR2).mono ?_;rintro e w3 ⟨HK3,⟨hn3,rfl⟩ | ⟨y,l3,v,hn3,rfl,⟨rfl,hy⟩,HR3⟩⟩
   . exact ⟨rfl,(HK1.trans HK2).trans HK3,Or.inl ⟨by unfold zw7;rw [HN1.out];simp only [];rw [if_pos hs,hn3],rfl⟩⟩
   go_wp2_with fail;go_ret2;exact ⟨(HK1.trans HK2).trans HK3,Or.inr ⟨(x,y),l3,_,by unfold zw7;rw [HN1.out];simp only [];rw [if_pos hs,hn3],rfl,⟨rfl,hx,hy⟩,HR3⟩⟩
 . have hs':skB l1 z4i=false:=by simpa using hs
   refine (zb2 R cap a ts l1 z4i w1 HD.out hs').mono ?_;rintro e w2 ⟨rfl,HR2,HK2⟩;go_wp2_with fail;go_ret2;exact ⟨HK1.trans HK2,Or.inr ⟨(⟨#[]⟩,x),l1,_,by unfold zw7;rw [HN1.out];simp only [];rw [if_neg hs],rfl,⟨rfl,vag _,hx⟩,HR2⟩⟩
theorem zy8 (l:List Tk):(zjg l opTexts=none/\zxf l=none)\/∃ k:Nat,∃ h:k<opTexts.length,zjg l opTexts=some opTexts[k]/\zxf l=some k:=by
 unfold zxf zjg
 cases hf:opTexts.findIdx? (fun t=>skB l t) with
 | none=>
   left
   rw [vcx] at hf;refine ⟨List.find?_eq_none.2 fun x hx=>by simpa using hf x hx,rfl⟩
 | some k=>
   right
   obtain ⟨hk,h2,h3⟩:=vbo.1 hf;refine ⟨k,hk,?_,rfl⟩;refine zsu hk ?_ h2;rw [vas];intro x hx;obtain ⟨j,hj,rfl⟩:=List.mem_take_iff_getElem.1 hx
   have hjk:j<k:=by omega
   simpa using h3 j hjk
abbrev opSigns:ByteArray:=⟨#[38,124,43,45,42,47,37,61,60]⟩
theorem zy9 (w:World):Calls Tryz.prog 298 #[.string opSigns,.string ⟨#[]⟩] w fun e w'=>∃ b,e = .returned (.slice (some ⟨b,0,none⟩) 9 9)/\w.heap.size<=b/\b<w'.heap.size/\(∀ i (h:i<opTexts.length),w'.cell? ⟨b,i,none⟩=some (.string opTexts[i]))/\Below w.heap.size w w':=by
 have hascii:∀ (j:Nat) b,opSigns.data.toList[j]? = some b->b.toNat<128:=by
  intro j b hj;have hm:=vdh hj
  have hall:∀ x ∈ opSigns.data.toList,x.toNat<128:=by decide
  exact hall b hm
 refine (Tryz.strings_Split_chars opSigns ⟨#[]⟩ w rfl (by decide) hascii).mono ?_;rintro e w' ⟨rfl,rfl⟩;refine ⟨_,rfl,by simp [World.iter],by simp [World.iter],fun i hi=>?_,?_⟩
 . have e9:Lib.charsB opSigns=opTexts:=by decide +kernel
   rw [e9,vef (heap_newP _ _)];simp [hi]
 . exact ((Below.refl w.heap.size w).alloc (vaa _) _).alloc (by simp) _
theorem z11 (R cap b:Nat) (a:OA) (ts l:List Tk) (w:World) (h:Rd R a cap ts w l) (hb:b<w.heap.size) (hbR:b≠R) (hc:∀ i (h:i<opTexts.length),w.cell? ⟨b,i,none⟩=some (.string opTexts[i])) :
 Calls Tryz.prog 195 #[.pointer (some ⟨R,0,none⟩),.slice (some ⟨b,0,none⟩) 9 9] w fun e w'=>Keeps R w w'/\((zxf l=none/\e = .panicked zag)\/∃ (k:Nat) (c:UInt8),zxf l=some k/\k<9/\Lib.indexByte opSigns.data.toList c=k/\e = .returned (.string ⟨#[c]⟩)/\Rd R a cap ts w' l.tail):=by
 refine (zjy R cap b 9 a ts l opTexts w h hb hbR (by decide) hc (by decide)).mono ?_;rintro e w' ⟨hk,hr⟩;refine ⟨hk,?_⟩
 rcases zy8 l with ⟨hm,ho⟩ | ⟨k,hk,hm,ho⟩
 . rw [hm] at hr
   rcases hr with ⟨_,rfl⟩ | ⟨_,_,_,h0,_⟩
   . exact Or.inl ⟨ho,rfl⟩
   . cases h0
 . rw [hm] at hr
   rcases hr with ⟨h0,_⟩ | ⟨t3,l3,v3,h0,rfl,rfl,HR3⟩
   . cases h0
   . obtain ⟨rfl,rfl⟩:=vao (vab h0)
     right
     have hs:∀ k (h:k<opTexts.length),∃ c:UInt8,opTexts[k]=⟨#[c]⟩/\Lib.indexByte opSigns.data.toList c=k:=by
      intro k hk;have hk':k<9:=hk
      obtain rfl | rfl | rfl | rfl | rfl | rfl | rfl | rfl | rfl:k=0\/k=1\/k=2\/k=3\/k=4\/k=5\/k=6\/k=7\/k=8:=by omega
      all_goals exact ⟨_,rfl,by decide +kernel⟩
     obtain ⟨c,hc1,hc2⟩:=hs k hk;exact ⟨k,c,ho,hk,hc2,by rw [hc1],HR3⟩
theorem Tryz.infoP80:(Tryz.prog.info? 174).map (fun i=>(i.zero,i.size,i.bytes))=some (some (.agg #[.int .i64 0,.int .i64 0,.string ⟨#[]⟩,.string ⟨#[]⟩,.slice none 0 0]),5,72):=by kernel_rfl
theorem Tryz.infoP48:(Tryz.prog.info? 176).map (fun i=>(i.zero,i.size,i.bytes))=some (some (.agg #[.int .i64 0,.string ⟨#[]⟩,.string ⟨#[]⟩,.slice none 0 0,.slice none 0 0,.slice none 0 0]),6,112):=by kernel_rfl
theorem Tryz.infoP56:(Tryz.prog.info? 170).map (fun i=>(i.zero,i.size,i.bytes))=some (some (.agg #[.int .i64 0,.string ⟨#[]⟩,.bool false,.int .i64 0]),4,40):=by kernel_rfl
theorem Tryz.infoP60:(Tryz.prog.info? 118).map (fun i=>(i.zero,i.size,i.bytes))=some (some (.agg #[.string ⟨#[]⟩,.bool false,.slice none 0 0,.slice none 0 0,.slice none 0 0]),5,96):=by kernel_rfl
theorem Tryz.infoP9:(Tryz.prog.info? 9).map (fun i=>(i.zero,i.size,i.bytes))=some (some (.string ⟨#[]⟩),1,16):=by kernel_rfl
theorem zza {R:Nat} {w w':World} {base:Nat} {e:TypeId} {size:Nat} {v:Value} {n:Nat} {xs:List Value} (h:w.ownsRow base e size v n xs) (hk:Keeps R w w') (hR:R<base):w'.ownsRow base e size v n xs:=by
 refine ⟨h.1,?_⟩
 rcases h.2 with h2 | ⟨g,cap,cur,h1,hb,hg,hr⟩
 . exact Or.inl h2
 . exact Or.inr ⟨g,cap,cur,h1,hb,(hk.block g (lt_of_heap hg) (by omega)).trans hg,hr⟩
def zes (lo:Nat) (v:Value) (b:Nat):Prop:=lo<=b/\v.ownBlock≠some b
def Row (base:Nat) (e:TypeId) (size:Nat) (w:World) (v:Value) (n:Nat) (ds:List D):Prop:=∃ xs,w.ownsRow base e size v n xs/\zau w (zes base v) ds xs
section
variable {base:Nat} {e:TypeId} {size:Nat} {w w':World} {v:Value} {n R:Nat} {ds:List D}
theorem Row.nil (base:Nat) (e:TypeId) (size:Nat) (w:World):Row base e size w (.slice none 0 0) 0 []:=⟨[],vek _ _ _ _,.nil⟩
theorem Row.keeps (h:Row base e size w v n ds) (hk:Keeps R w w') (hR:R<base):Row base e size w' v n ds:=by
 obtain ⟨xs,h1,h2⟩:=h;refine ⟨xs,zza h1 hk hR,h2.moves ((zad.refl w _).keeps hk ?_)⟩
 intro b _ hb;have:=hb.1;omega
theorem Row.later (h:Row base e size w v n ds) (hb:Below w.heap.size w w'):Row base e size w' v n ds:=by
 obtain ⟨xs,h1,h2⟩:=h;exact ⟨xs,ownsRow_later h1 hb,h2.moves (zad.of_below hb _)⟩
theorem Row.alloc (h:Row base e size w v n ds) (o:Obj):Row base e size (w.alloc o) v n ds:=h.later ((Below.refl _ _).alloc (vaa _) o)
theorem Row.set (h:Row base e size w v n ds) {p:Addr} (hp:p.block<base) (u:Value):Row base e size (w.setCell p u) v n ds:=by
 obtain ⟨xs,h1,h2⟩:=h;refine ⟨xs,ownsRow_setCell_below h1 hp u,h2.moves ((zad.refl w _).set ?_ u)⟩
 intro b _ hb;have:=hb.1;omega
theorem Row.slice (h:Row base e size w v n ds):∃ a cap,v = .slice a n cap/\EAt w (base<=·) a n ds:=by
 obtain ⟨xs,h1,h2⟩:=h
 have hm:zad w (zes base v) w (base<=·):=⟨vaa _,fun b _ hb=>⟨hb.1,rfl⟩⟩
 rcases h1.2 with ⟨rfl,rfl⟩ | ⟨g,cap,cur,rfl,_⟩
 . exact ⟨none,0,rfl,Or.inl rfl⟩
 . exact ⟨_,cap,rfl,EAt.of_own h1 (fun _ h=>h) (h2.moves hm)⟩
theorem Row.lt (h:Row base e size w v n ds):∀ k,v.ownBlock=some k->base<=k/\k<w.heap.size:=by
 obtain ⟨xs,h1,_⟩:=h;exact h1.lt
theorem Row.one {A:Nat->Prop} {cs:Array Value} {g:Nat} (hg:w.heap[g]? = some (.cells cs e (0,0))) (hb:base<=g) (hs:cs.size=size) (hd:zau w A ds cs.toList) (hA:∀ b,b<w.heap.size->A b->base<=b/\b≠g) :
 Row base e size w (.slice (some ⟨g,0,none⟩) 1 1) 1 ds:=by
 refine ⟨cs.toList,⟨by simp [hs],Or.inr ⟨g,1,cs,rfl,hb,hg,vaa _,by unfold maxLen;omega,by omega,by rw [vdm,← hs];exact vaw (by simp)⟩⟩,hd.moves ⟨vaa _,fun b h1 h2=>⟨⟨(hA b h1 h2).1,fun h=>(hA b h1 h2).2 ?_⟩,rfl⟩⟩⟩;simp only [Value.ownBlock] at h;exact (vab h).symm
theorem Row.first {A:Nat->Prop} {cs:Array Value} (hd:zau w A ds cs.toList) (hA:∀ b,b<w.heap.size->A b->base<=b) (hb:base<=w.heap.size) (hs:cs.size=size) :
 Row base e size (w.alloc (.cells cs e)) (.slice (some ⟨w.heap.size,0,none⟩) 1 1) 1 ds:=by
 refine Row.one (heap_newP w _) hb hs (A:=fun b=>A b/\b<w.heap.size) (hd.moves ⟨by simp,fun b h1 h2=>⟨⟨h2,h1⟩,((Below.refl w.heap.size w).alloc (vaa _) (.cells cs e)).block b h1⟩⟩) ?_;intro b _ h2;exact ⟨hA b h2.2 h2.1,by omega⟩
end
theorem zbs {P:Program} {ops:Array Oper} {rest:List Oper} {o:Oper} {a:Act} {Q:Exit->Act->World->Prop} (hgd:o.guard=none) (s x:Operand) (t:TypeId)
 (ho:o.op = .call { callee:=.builtin .append,args:=#[s,x],argTypes:=#[t,t] }) (base:Nat) (e:TypeId) (z:Value) (size bytes:Nat) (ht:P.underlying t=some (.slice e))
 (hi:(P.info? e).map (fun i=>(i.zero,i.size,i.bytes))=some (some z,size,bytes)) (hzs:z.cells.size=size) (hsz:0<size) (w:World) (v:Value) (n:Nat) (ds nd:List D) (hs:a.eval s=v) (hrow:Row base e size w v n ds)
 (cs:Array Value) (H:Nat) (hH:H=w.heap.size) (hx:a.eval x = .slice (some ⟨H,0,none⟩) 1 1) (hcs:cs.size=size) (A:Nat->Prop) (hnd:zau w A nd cs.toList) (hA:∀ b,b<w.heap.size->A b->zes base v b)
 (hn:n<=5000) (hby:bytes<=200) (hbase:base<=w.heap.size)
 (h:∀ g cap w',Row base e size w' (.slice (some ⟨g,0,none⟩) (n+1) cap) (n+1) (ds++nd)->Below base w w'->w.heap.size<w'.heap.size->wpList P ops Q rest (a.put o.dst (.slice (some ⟨g,0,none⟩) (n+1) cap)) w') :
 wpList P ops Q (o :: rest) a (w.alloc (.cells cs e)):=by
 obtain ⟨i0,hi,hz0,hz1,hz2⟩:=info_parts hi;obtain ⟨xs,hown,hds⟩:=hrow
 have hsize:(w.alloc (.cells cs e)).heap.size=w.heap.size+1:=by simp
 refine wpList_append_lies (w.alloc (.cells cs e)) hgd s x t ho base e i0 z size bytes ht hi hz0 hz1 hz2 hzs hsz v n xs hs (hown.alloc _) ⟨H,0,none⟩ 1 1 cs.toList hx (by simp [hcs]) ?_ hnd.one (by omega) (by unfold maxLen;omega) ?_ (by omega) _ rfl ?_
 . intro j u hj
   subst hH
   have:(⟨w.heap.size,0,none⟩:Addr).add j=⟨w.heap.size,j,none⟩:=by unfold Addr.add;split<;>simp_all
   rw [this,vef (heap_newP w _)];simpa using hj
 . have:(n+1)*bytes<=5001*200:=vdr (by omega) hby
   omega
 . intro g cap w' hown' hgrow hat hlt
   have hbel:Below base w w':=((Below.refl base w).alloc hbase _).grown hgrow (by omega) (fun k hk=>(hown.lt k hk).1);have hgz:=hgrow.size;refine h g cap w' ⟨xs++cs.toList,hown',?_⟩ hbel (by omega)
   have hmv:∀ A':Nat->Prop,(∀ b,b<w.heap.size->A' b->zes base v b)->zad w A' w' (zes base (.slice (some ⟨g,0,none⟩) (n+1) cap)):=by
    intro A' hA';refine ⟨by omega,fun b hb ha=>⟨⟨(hA' b hb ha).1,fun hgb=>?_⟩,?_⟩⟩
    . have hgb':g=b:=by simpa [Value.ownBlock] using hgb
      rcases hat with h1 | h1
      . exact (hA' b hb ha).2 (by rw [h1,hgb'])
      . omega
    . refine (hgrow.block b (by omega) (fun h=>(hA' b hb ha).2 h.symm)).trans ?_
      exact ((Below.refl w.heap.size w).alloc (vaa _) (.cells cs e)).block b hb
   exact (hds.moves (hmv _ (fun _ _ h=>h))).append (hnd.moves (hmv A hA))
theorem zbj {P:Program} {ops:Array Oper} {o:Oper} {a:Act} {K:Act->World->Prop} {Q:Exit->Act->World->Prop} {E:Prop} (hgd:o.guard=none) (s x:Operand) (t:TypeId)
 (ho:o.op = .call { callee:=.builtin .append,args:=#[s,x],argTypes:=#[t,t] }) (base:Nat) (e:TypeId) (z:Value) (size bytes:Nat) (ht:P.underlying t=some (.slice e))
 (hi:(P.info? e).map (fun i=>(i.zero,i.size,i.bytes))=some (some z,size,bytes)) (hzs:z.cells.size=size) (hsz:0<size) (w:World) (v:Value) (n:Nat) (ds nd:List D) (hs:a.eval s=v) (hrow:Row base e size w v n ds)
 (cs:Array Value) (H:Nat) (hH:H=w.heap.size) (hx:a.eval x = .slice (some ⟨H,0,none⟩) 1 1) (hcs:cs.size=size) (A:Nat->Prop) (hnd:zau w A nd cs.toList) (hA:∀ b,b<w.heap.size->A b->zes base v b)
 (hn:n<=5000) (hby:bytes<=200) (hbase:base<=w.heap.size)
 (h:∀ g cap w',Row base e size w' (.slice (some ⟨g,0,none⟩) (n+1) cap) (n+1) (ds++nd)->Below base w w'->w.heap.size<w'.heap.size->K (a.put o.dst (.slice (some ⟨g,0,none⟩) (n+1) cap)) w') :
 if Region.wanted o (yielded ops a.tmps)=true then Oper.wp P o a (w.alloc (.cells cs e)) K Q else E:=by
 obtain ⟨i0,hi,hz0,hz1,hz2⟩:=info_parts hi;obtain ⟨xs,hown,hds⟩:=hrow
 have hsize:(w.alloc (.cells cs e)).heap.size=w.heap.size+1:=by simp
 refine step_append_lies (w.alloc (.cells cs e)) hgd s x t ho base e i0 z size bytes ht hi hz0 hz1 hz2 hzs hsz v n xs hs (hown.alloc _) ⟨H,0,none⟩ 1 1 cs.toList hx (by simp [hcs]) ?_ hnd.one (by omega) (by unfold maxLen;omega) ?_ (by omega) _ rfl ?_
 . intro j u hj
   subst hH
   have:(⟨w.heap.size,0,none⟩:Addr).add j=⟨w.heap.size,j,none⟩:=by unfold Addr.add;split<;>simp_all
   rw [this,vef (heap_newP w _)];simpa using hj
 . have:(n+1)*bytes<=5001*200:=vdr (by omega) hby
   omega
 . intro g cap w' hown' hgrow hat hlt
   have hbel:Below base w w':=((Below.refl base w).alloc hbase _).grown hgrow (by omega) (fun k hk=>(hown.lt k hk).1);have hgz:=hgrow.size;refine h g cap w' ⟨xs++cs.toList,hown',?_⟩ hbel (by omega)
   have hmv:∀ A':Nat->Prop,(∀ b,b<w.heap.size->A' b->zes base v b)->zad w A' w' (zes base (.slice (some ⟨g,0,none⟩) (n+1) cap)):=by
    intro A' hA';refine ⟨by omega,fun b hb ha=>⟨⟨(hA' b hb ha).1,fun hgb=>?_⟩,?_⟩⟩
    . have hgb':g=b:=by simpa [Value.ownBlock] using hgb
      rcases hat with h1 | h1
      . exact (hA' b hb ha).2 (by rw [h1,hgb'])
      . omega
    . refine (hgrow.block b (by omega) (fun h=>(hA' b hb ha).2 h.symm)).trans ?_
      exact ((Below.refl w.heap.size w).alloc (vaa _) (.cells cs e)).block b hb
   exact (hds.moves (hmv _ (fun _ _ h=>h))).append (hnd.moves (hmv A hA))
section
variable {R cap:Nat} {a:OA} {ts l l0:List Tk} {w w0 w':World}
theorem Rd.belowOf (h:Rd R a cap ts w l) (h0:Rd R a cap ts w0 l0) (hb:Below w0.heap.size w w'):Rd R a cap ts w' l:=by
 refine ⟨?_,?_,h.ne,h.len⟩
 . obtain ⟨k,h1,h2,h3⟩:=h.idx
   exact ⟨k,h1,h2,(hb.block R h0.lt).trans h3⟩
 . rcases h0.toks with h4 | ⟨b,off,ha,h4⟩
   . exact Or.inl h4
   . rcases h.toks with h5 | ⟨b',off',ha',h5⟩
     . exact Or.inl h5
     . have eq:b'=b:=by rw [ha] at ha';injection ha' with ha';injection ha' with e1 e2;exact e1.symm
       subst eq;exact Or.inr ⟨b',off',ha',h5.below hb h4.lt⟩
theorem Keeps.belowOf (h:Keeps R w0 w) (hb:Below w0.heap.size w w'):Keeps R w0 w':=
 ⟨hb.os.trans h.os,hb.tape.trans h.tape,hb.output.trans h.output,vbc h.size hb.size,fun k h1 h2=>(hb.block k h1).trans (h.block k h1 h2)⟩
end
def zhv (R n:Nat) (w:World):Nat:=match w.cell? ⟨R,1,none⟩ with | some (.int _ k)=>n - k.toNat | _=>0
theorem Rd.left {R cap:Nat} {a:OA} {ts l:List Tk} {w:World} (h:Rd R a cap ts w l):zhv R ts.length w=l.length:=by
 obtain ⟨k,hk,rfl,hb⟩:=h.idx;unfold zhv;rw [vef hb];simp
set_option maxHeartbeats 1600000
def z84 (A:Nat->Prop) (xs:List Ex) (w:World) (v:Value):Prop:=∃ a cap,v = .slice a xs.length cap/\EAt w A a xs.length (zbo xs)
structure ExC (R cap:Nat) (a:OA) (ts:List Tk) (f:Nat):Prop where
 expr:∀ (l:List Tk) (w:World),Rd R a cap ts w l->3*l.length+1<=f->Calls Tryz.prog 283 #[.pointer (some ⟨R,0,none⟩)] w (zd4 R a cap ts w (zbm f l) (zgs (w.heap.size<=·)))
 pair:∀ (l:List Tk) (w:World),Rd R a cap ts w l->3*l.length+2<=f->Calls Tryz.prog 293 #[.pointer (some ⟨R,0,none⟩)] w (zd4 R a cap ts w (zfz f l) (zgs (w.heap.size<=·)))
 args:∀ (l:List Tk) (w:World),Rd R a cap ts w l->3*l.length+2<=f->Calls Tryz.prog 295 #[.pointer (some ⟨R,0,none⟩)] w (zd4 R a cap ts w (zeg f l) (z84 (w.heap.size<=·)))
theorem zzb (R cap:Nat) (a:OA) (ts:List Tk) (f:Nat) (IH:ExC R cap a ts f) (l:List Tk) (w:World) (h:Rd R a cap ts w l) (hf:3*l.length+2<=f+1) :
 Calls Tryz.prog 293 #[.pointer (some ⟨R,0,none⟩)] w (zd4 R a cap ts w (zfz (f+1) l) (zgs (w.heap.size<=·))):=by
 have HI:Hid (ExC R cap a ts f):=IH;have HR:Hid (Rd R a cap ts w l):=h;have hRw:=h.lt;clear IH h;go_enter Tryz.func293,Tryz.ntmps293;go_wp2_with fail;refine (HI.out.expr l _ (HR.out.alloc _) (by omega)).mono ?_;rintro e w1 ⟨HK1,⟨hn,rfl⟩ | ⟨x,l1,v,hn,rfl,⟨a1,c1,rfl,hx1,hx2,hx3⟩,HR1⟩⟩
 . exact ⟨rfl,((Keeps.refl R w).alloc _).trans HK1,Or.inl ⟨by unfold zfz;rw [hn],rfl⟩⟩
 have HN1:Hid (zbm f l=some (x,l1)):=hn
 have HX1:Hid (x.mod.size<=maxLen/\x.name.size<=maxLen/\EAt w1 ((w.heap.size+1)<=·) a1 x.args.length (zbo x.args)):=⟨hx1,hx2,by simpa using hx3⟩
 have HR1':Hid (Rd R a cap ts w1 l1):=HR1;have hlt1:=zci _ _ _ _ hn;have hz1:=HK1.size;simp at hz1;clear hn hx1 hx2 hx3 HR1;have HK1':Hid (Keeps R w w1):=((Keeps.refl R w).alloc _).trans HK1;have HB1:Hid (w1.heap[w.heap.size]? = some (.cells #[.int .i64 0,.int .i64 0,.string ⟨#[]⟩,.string ⟨#[]⟩,.slice none 0 0] 174 (0,0))):=(HK1.block w.heap.size (by simp) (by omega)).trans (heap_newP _ _);clear HK1;go_wp2_with fail;refine (zy9 _).mono ?_;rintro e w2 ⟨b,rfl,hb1,hb2,hbc,HB2⟩;have HK2:Hid (Keeps R w1 w2):=((Keeps.refl R w1).alloc _).later HB2;have HR2:Hid (Rd R a cap ts w2 l1):=(HR1'.out.alloc _).later HB2;have HC2:Hid (w2.heap[w1.heap.size]? = some (.cells #[.int .i64 x.op,.int .i64 x.n,.string x.mod,.string x.name,.slice a1 x.args.length c1] 174 (0,0))):=(HB2.block w1.heap.size (by simp)).trans (heap_newP _ _);have hz2:=HB2.size
 simp at hz2 hb1;clear HB2;go_wp2_with fail;refine (z11 R cap b a ts l1 w2 HR2.out hb2 (by omega) hbc).mono ?_;rintro e w3 ⟨HK3,⟨ho,rfl⟩ | ⟨k,c,ho,hk9,hki,rfl,HR3⟩⟩
 . exact ⟨rfl,(HK1'.out.trans HK2.out).trans HK3,Or.inl ⟨by unfold zfz;rw [HN1.out];simp only [];rw [ho],rfl⟩⟩
 have hz3:=HK3.size;have HM:Hid (zxf l1=some k):=ho;have HKI:Hid (Lib.indexByte opSigns.data.toList c=k):=hki;have hl3:=zih (zxi ho);have HK3':Hid (Keeps R w w3):=(HK1'.out.trans HK2.out).trans HK3;have HC3:Hid (w3.heap[w1.heap.size]? = some (.cells #[.int .i64 x.op,.int .i64 x.n,.string x.mod,.string x.name,.slice a1 x.args.length c1] 174 (0,0))):=(HK3.block w1.heap.size (by omega) (by omega)).trans HC2.out;have HV3:Hid (zad w1 (w.heap.size+1<=·) w3 (w.heap.size+1<=·)):=((zad.refl w1 _).keeps HK2.out (by intro b;omega)).keeps HK3 (by intro b;omega);clear ho hbc HC2 HR2 hki;have HR3':Hid (Rd R a cap ts w3 l1.tail):=HR3;clear HR3;go_wp2_with fail;refine (HI.out.expr l1.tail w3 HR3'.out (by omega)).mono ?_;rintro e w4 ⟨HK4,⟨hn,rfl⟩ | ⟨y,l4,v,hn,rfl,⟨a4,c4,rfl,hy1,hy2,hy3⟩,HR4⟩⟩
 . exact ⟨rfl,HK3'.out.trans HK4,Or.inl ⟨by unfold zfz;rw [HN1.out];simp only [];rw [HM.out];simp only [];rw [hn],rfl⟩⟩
 have HN4:Hid (zbm f l1.tail=some (y,l4)):=hn
 have HX4:Hid (y.mod.size<=maxLen/\y.name.size<=maxLen/\EAt w4 (w3.heap.size<=·) a4 y.args.length (zbo y.args)):=⟨hy1,hy2,hy3⟩
 have HR4':Hid (Rd R a cap ts w4 l4):=HR4;have HK4':Hid (Keeps R w w4):=HK3'.out.trans HK4;have HV4:Hid (zad w1 (w.heap.size+1<=·) w4 (w.heap.size+1<=·)):=HV3.out.keeps HK4 (by intro b;omega);have HC4:Hid (w4.heap[w1.heap.size]? = some (.cells #[.int .i64 x.op,.int .i64 x.n,.string x.mod,.string x.name,.slice a1 x.args.length c1] 174 (0,0))):=(HK4.block w1.heap.size (by omega) (by omega)).trans HC3.out;have hz4:=HK4.size;have HB4:Hid (w4.heap[w.heap.size]? = some (.cells #[.int .i64 0,.int .i64 0,.string ⟨#[]⟩,.string ⟨#[]⟩,.slice none 0 0] 174 (0,0))):=(HK4.block w.heap.size (by omega) (by omega)).trans ((HK3.block w.heap.size (by omega) (by omega)).trans ((HK2.out.block w.heap.size (by omega) (by omega)).trans HB1.out));clear hn hy1 hy2 hy3 HR4 HK4 HC3 HV3 HK3' HR3';go_wp2_with fail;refine (zfk R cap _ a ts l4 tRp _ (by simp) (HR4'.out.alloc _) (by decide)).mono ?_
 rintro e w5 ⟨HK5,⟨hs5,rfl⟩ | ⟨hs5,rfl,HR5⟩⟩
 . exact ⟨rfl,(HK4'.out.alloc _).trans HK5,Or.inl ⟨by unfold zfz;rw [HN1.out];simp only [];rw [HM.out];simp only [];rw [HN4.out];simp only [];rw [if_neg (by simp [hs5])],rfl⟩⟩
 have HP:Hid (zfz (f+1) l=some (.mk (7+k) 0 ⟨#[]⟩ ⟨#[]⟩ [x,y],l4.tail)):=by show zfz (f+1) l=_;unfold zfz;rw [HN1.out];simp only [];rw [HM.out];simp only [];rw [HN4.out];simp only [];rw [if_pos hs5]
 have hz5:=HK5.size;simp at hz5;have HC5:Hid (w5.heap[w1.heap.size]? = some (.cells #[.int .i64 x.op,.int .i64 x.n,.string x.mod,.string x.name,.slice a1 x.args.length c1] 174 (0,0))):=(HK5.block w1.heap.size (by simp;omega) (by omega)).trans (zab HC4.out);have HD5:Hid (w5.heap[w4.heap.size]? = some (.cells #[.int .i64 y.op,.int .i64 y.n,.string y.mod,.string y.name,.slice a4 y.args.length c4] 174 (0,0))):=(HK5.block w4.heap.size (by simp) (by omega)).trans (heap_newP _ _);have HB5:Hid (w5.heap[w.heap.size]? = some (.cells #[.int .i64 0,.int .i64 0,.string ⟨#[]⟩,.string ⟨#[]⟩,.slice none 0 0] 174 (0,0))):=(HK5.block w.heap.size (by simp;omega) (by omega)).trans (zab HB4.out);obtain ⟨f0,f1,f2,f3,f4,f5⟩:=zaa HC5.out;obtain ⟨g0,g1,g2,g3,g4,g5⟩:=zaa HD5.out;obtain ⟨h0,h1,h2,h3,h4,h5⟩:=zaa HB5.out;have HV5:Hid (zad w1 (w.heap.size+1<=·) w5 (w.heap.size+1<=·)):=(HV4.out.alloc _).keeps HK5 (by intro b;omega)
 have HW5:Hid (zad w4 (w3.heap.size<=·) w5 (w3.heap.size<=·)):=((zad.refl w4 _).alloc _).keeps HK5 (by intro b;omega);have HR5':Hid (Rd R a cap ts w5 l4.tail):=HR5;have HK5':Hid (Keeps R w w5):=(HK4'.out.alloc _).trans HK5;clear HK5 HR5 hs5 HC4 HV4 HR4'
 have HIX:Hid (∀ w:World,Calls Tryz.prog 299 #[.string opSigns,.string ⟨#[c]⟩] w fun e w'=>e = .returned (.int .i64 k)/\w'=w):=fun w=>by rw [← HKI.out];exact Tryz.strings_Index_one opSigns c w
 have hq0:w.heap.size<w5.heap.size:=by omega
 have hq1:w1.heap.size<w5.heap.size:=by omega
 have hq4:w4.heap.size<w5.heap.size:=by omega
 clear HKI
 have hwr:IntKind.i64.wrap (7+(k:Int))=7+k:=by simp only [IntKind.wrap,IntKind.bits,IntKind.signed];simp;omega
 have FIN:∀ W:World,W=(((((w5.setCell ⟨w.heap.size,0,none⟩ (.int .i64 (7+k))).setCell ⟨w.heap.size,1,none⟩ (.int .i64 0)).setCell ⟨w.heap.size,2,none⟩ (.string ⟨#[]⟩)).setCell ⟨w.heap.size,3,none⟩ (.string ⟨#[]⟩)).setCell ⟨w.heap.size,4,none⟩ (.slice (some ⟨w5.heap.size,0,none⟩) 2 2)).alloc (.cells #[.int .i64 x.op,.int .i64 x.n,.string x.mod,.string x.name,.slice a1 x.args.length c1,.int .i64 y.op,.int .i64 y.n,.string y.mod,.string y.name,.slice a4 y.args.length c4] 174)->
  zd4 R a cap ts w (zfz (f+1) l) (zgs (w.heap.size<=·)) (.returned (.agg #[.int .i64 (7+k),.int .i64 0,.string ⟨#[]⟩,.string ⟨#[]⟩,.slice (some ⟨w5.heap.size,0,none⟩) 2 2])) W.drew:=by
  rintro W rfl;refine ⟨Keeps.drew (Keeps.alloc (((((HK5'.out.set (vaa _) _).set (vaa _) _).set (vaa _) _).set (vaa _) _).set (vaa _) _) _),Or.inr ⟨_,_,_,HP.out,rfl,⟨some ⟨w5.heap.size,0,none⟩,2,rfl,vag _,vag _,?_⟩,Rd.drew (Rd.alloc (((((HR5'.out.setAbove HR.out (vaa _) _).setAbove HR.out (vaa _) _).setAbove HR.out (vaa _) _).setAbove HR.out (vaa _) _).setAbove HR.out (vaa _) _) _)⟩⟩;refine z7h (t:=174) (cap:=c1) (dap:=c4) HX1.out HX4.out (zad.drew (zad.alloc (zad.set (zad.set (zad.set (zad.set (zad.set (HV5.out.to (by omega)) ?_ _) ?_ _) ?_ _) ?_ _) ?_ _) _)) (zad.drew (zad.alloc (zad.set (zad.set (zad.set (zad.set (zad.set (HW5.out.to (by omega)) ?_ _) ?_ _) ?_ _) ?_ _) ?_ _) _)) ?_ (by omega)
  all_goals first | (intro b;simp only [];omega) | skip
  have e:=heap_newP (((((w5.setCell ⟨w.heap.size,0,none⟩ (.int .i64 (7+k))).setCell ⟨w.heap.size,1,none⟩ (.int .i64 0)).setCell ⟨w.heap.size,2,none⟩ (.string ⟨#[]⟩)).setCell ⟨w.heap.size,3,none⟩ (.string ⟨#[]⟩)).setCell ⟨w.heap.size,4,none⟩ (.slice (some ⟨w5.heap.size,0,none⟩) 2 2)) (.cells #[.int .i64 x.op,.int .i64 x.n,.string x.mod,.string x.name,.slice a1 x.args.length c1,.int .i64 y.op,.int .i64 y.n,.string y.mod,.string y.name,.slice a4 y.args.length c4] 174);simp only [vaq] at e;exact e
 have HFIN:Hid _:=FIN;clear FIN;go_wp2_with fail
 go_region_with (go_at_call 299;refine (HIX.out _).mono ?_;rintro e w' ⟨rfl,rfl⟩)
 all_goals go_wp2_with fail
 all_goals refine bodyPost_ret (v:=.agg #[.int .i64 (7+k),.int .i64 0,.string ⟨#[]⟩,.string ⟨#[]⟩,.slice (some ⟨w5.heap.size,0,none⟩) 2 2]) (by simp [results,Tryz.results293,go_sem,h0,h1,h2,h3,h4,hq0]) rfl ?_
 all_goals exact HFIN.out _ rfl
theorem z7i (l:List Tk) (t u:ByteArray):zjg l [t,u]=if skB l t then some t else if skB l u then some u else none:=by
 unfold zjg;rw [vcq,vcq];cases skB l t<;>cases skB l u<;>rfl
theorem z7j (R cap n:Nat) (a:OA) (ts l:List Tk) (t u:ByteArray) (w:World) (hn:n=w.heap.size) (h:Rd R a cap ts w l) (ht:0<t.size) (hu:0<u.size) :
 Calls Tryz.prog 195 #[.pointer (some ⟨R,0,none⟩),.slice (some ⟨n,0,none⟩) 2 2] (w.alloc (.cells #[.string t,.string u] 9)) fun e w'=>Keeps R w w'/\((skB l t=false/\skB l u=false/\e = .panicked zag)\/(skB l t=true/\e = .returned (.string t)/\Rd R a cap ts w' l.tail)\/(skB l t=false/\skB l u=true/\e = .returned (.string u)/\Rd R a cap ts w' l.tail)):=by
 have hlt:=h.lt;subst hn;refine (zjy R cap w.heap.size 2 a ts l [t,u] _ (h.alloc _) (by simp) (by omega) (by simp) (fun i hi=>?_) (fun i hi=>?_)).mono ?_
 . obtain rfl | rfl:i=0\/i=1:=by simp at hi;omega
   all_goals simp
 . obtain rfl | rfl:i=0\/i=1:=by simp at hi;omega
   . exact ht
   . exact hu
 . rintro e w' ⟨hk,hr⟩
   refine ⟨((Keeps.refl R w).alloc _).trans hk,?_⟩;rw [z7i] at hr
   cases hs:skB l t<;>cases hs2:skB l u<;>rw [hs,hs2] at hr<;>simp only [vcu,if_false,if_true,Option.map_none,Option.map_some] at hr
   . rcases hr with ⟨_,rfl⟩ | ⟨x,l',v,hr,_⟩
     . exact Or.inl ⟨rfl,rfl,rfl⟩
     . cases hr
   . rcases hr with ⟨hr,_⟩ | ⟨x,l',v,hr,rfl,rfl,hR⟩
     . cases hr
     . obtain ⟨rfl,rfl⟩:=vao (vab hr)
       exact Or.inr (Or.inr ⟨rfl,rfl,rfl,hR⟩)
   all_goals
    rcases hr with ⟨hr,_⟩ | ⟨x,l',v,hr,rfl,rfl,hR⟩
    . cases hr
    . obtain ⟨rfl,rfl⟩:=vao (vab hr)
      exact Or.inr (Or.inl ⟨rfl,rfl,hR⟩)
theorem zzc (R cap:Nat) (a:OA) (ts:List Tk) (f:Nat) (IH:∀ g,g<=f->ExC R cap a ts g) (l:List Tk) (w:World) (h:Rd R a cap ts w l) (hf:3*l.length+2<=f+1) :
 Calls Tryz.prog 295 #[.pointer (some ⟨R,0,none⟩)] w (zd4 R a cap ts w (zeg (f+1) l) (z84 (w.heap.size<=·))):=by
 have HI:Hid (∀ g,g<=f->ExC R cap a ts g):=IH;have HR:Hid (Rd R a cap ts w l):=h;have hRw:=h.lt
 have hlts:l.length<=4096:=by
  obtain ⟨k,_,rfl,_⟩:=h.idx;have:=h.len
  rw [vbv];omega
 clear IH h;go_enter Tryz.func295,Tryz.ntmps295;go_wp2_with fail
 by_cases hs:skB l tRp=true
 . refine (zbl R cap a ts l tRp w (by decide) HR.out hs).mono ?_
   rintro e w1 ⟨rfl,HR1,HK1⟩;go_wp2_with fail;go_ret;exact ⟨HK1,Or.inr ⟨[],l.tail,_,by unfold zeg;rw [if_pos hs],rfl,⟨none,0,rfl,Or.inl rfl⟩,HR1⟩⟩
 have hs':skB l tRp=false:=by simpa using hs
 refine (zb2 R cap a ts l tRp w HR.out hs').mono ?_;rintro e w1 ⟨rfl,HR1,HK1⟩;have HR1':Hid (Rd R a cap ts w1 l):=HR1;have HK1':Hid (Keeps R w w1):=HK1;have hz1:=HK1.size;clear HR1 HK1;go_wp2_with fail;refine ((HI.out f (vaa _)).expr l w1 HR1'.out (by omega)).mono ?_;rintro e w2 ⟨HK2,⟨hn,rfl⟩ | ⟨x,l2,v,hn,rfl,⟨a2,c2,rfl,hx1,hx2,hx3⟩,HR2⟩⟩
 . exact ⟨rfl,HK1'.out.trans HK2,Or.inl ⟨by unfold zeg;rw [if_neg hs,hn],rfl⟩⟩
 have hl2:=zci _ _ _ _ hn
 have HP:Hid (zeg (f+1) l=zgq f [x] l2):=by show zeg (f+1) l=_;unfold zeg;rw [if_neg hs,hn]
 have HR2':Hid (Rd R a cap ts w2 l2):=HR2;have HK2':Hid (Keeps R w w2):=HK1'.out.trans HK2;have HX:Hid (zau w2 (w1.heap.size<=·) x.ds (zfl x a2 c2)):=zfm hx1 hx2 hx3;have hz2:=HK2.size;clear hn HR2 HK2 hx1 hx2 hx3 hs hs' HR1' HK1';go_wp2_with fail
 go_loopw [3] (fun v wr=>∃ (g:Nat) (acc:List Ex) (l':List Tk),g<=f/\zeg (f+1) l=zgq g acc l'/\3*l'.length+3<=g/\acc.length+l'.length<=l.length/\Row w.heap.size 174 5 wr v acc.length (zbo acc)/\Rd R a cap ts wr l'/\Keeps R w wr) (fun _ wr=>zhv R ts.length wr)
 case atStart=>
  refine ⟨f,[x],l2,vaa _,HP.out,by omega,by simp;omega,?_,HR2'.out.alloc _,HK2'.out.alloc _⟩;rw [zjz];exact Row.first (cs:=#[.int .i64 x.op,.int .i64 x.n,.string x.mod,.string x.name,.slice a2 x.args.length c2]) HX.out (fun b _ h=>by omega) (by omega) rfl
 case round=>
  obtain ⟨g,acc,l',hg,hpm,hlen,hacc,hrow,hrd,hke⟩:=hrel;have HG:Hid (zeg (f+1) l=zgq g acc l'):=hpm;have HO:Hid (Row w.heap.size 174 5 wr u3 acc.length (zbo acc)):=hrow;have HD:Hid (Rd R a cap ts wr l'):=hrd;have HE:Hid (Keeps R w wr):=hke;have hzr:=hke.size
  obtain ⟨g,rfl⟩:∃ g',g=g'+1:=⟨g - 1,by omega⟩
  clear hpm hrow hrd hke HP HX;go_wp2_with fail;refine (z7j R cap _ a ts l' z06 tRp _ (by simp) HD.out (by decide) (by decide)).mono ?_;rintro e w3 ⟨HK3,⟨h1,h2,rfl⟩ | ⟨h1,rfl,HR3⟩ | ⟨h1,h2,rfl,HR3⟩⟩
  . exact ⟨rfl,HE.out.trans HK3,Or.inl ⟨by rw [HG.out];unfold zgq;rw [if_neg (by simp [h1]),if_neg (by simp [h2])],rfl⟩⟩
  . have hl3:=zah (by decide) h1
    have hz3:=HK3.size;go_wp2_with fail;refine ((HI.out g (by omega)).expr l'.tail w3 HR3 (by omega)).mono ?_;rintro e w4 ⟨HK4,⟨hn,rfl⟩ | ⟨y,l4,v,hn,rfl,⟨a4,c4,rfl,hx1,hx2,hx3⟩,HR4⟩⟩
    . exact ⟨rfl,(HE.out.trans HK3).trans HK4,Or.inl ⟨by rw [HG.out];unfold zgq;rw [if_pos h1,hn],rfl⟩⟩
    have hl4:=zci _ _ _ _ hn
    have HP:Hid (zeg (f+1) l=zgq g (acc++[y]) l4):=by show zeg (f+1) l=_;rw [HG.out];unfold zgq;rw [if_pos h1,hn];cases g<;>rfl
    have HX4:Hid (zau w4 (w3.heap.size<=·) y.ds (zfl y a4 c4)):=zfm hx1 hx2 hx3;have HR4':Hid (Rd R a cap ts w4 l4):=HR4;have HK4':Hid (Keeps R w w4):=(HE.out.trans HK3).trans HK4;have HO4:Hid (Row w.heap.size 174 5 w4 u3 acc.length (zbo acc)):=(HO.out.keeps HK3 hRw).keeps HK4 hRw;have hz4:=HK4.size
    have HL:Hid (∀ k,u3.ownBlock=some k->k<w3.heap.size):=fun k hk=>((HO.out.keeps HK3 hRw).lt k hk).2
    have hle:=HD.out.left;clear hn HR3 HR4 HK3 HK4 hx1 hx2 hx3
    go_wp2_with (at_builtin;refine zbs rfl (.tmp 13) (.tmp 16) 172 rfl w.heap.size 174 _ 5 72 Tryz.underlying172 Tryz.infoP80 rfl (by decide) w4 u3 acc.length (zbo acc) y.ds rfl HO4.out _ _ rfl rfl rfl (w3.heap.size<=·) HX4.out ?_ (by omega) (by decide) (by omega) ?_)
    . intro b _ hb
      exact ⟨by omega,fun h=>by have:=HL.out b h;omega⟩
    . intro g5 c5 w5 HO5 HB5 hz5
      have HO5':Hid (Row w.heap.size 174 5 w5 (.slice (some ⟨g5,0,none⟩) (acc.length+1) c5) (acc.length+1) (zbo acc++y.ds)):=HO5;have HR5:Hid (Rd R a cap ts w5 l4):=HR4'.out.belowOf HR.out HB5;have HK5:Hid (Keeps R w w5):=HK4'.out.belowOf HB5;have hl5:=HR5.out.left;clear HO5 HB5 HO4 HR4' HK4' HX4;go_wp2_with fail;go_roundw
      case rel=>exact ⟨g,acc++[y],l4,by omega,HP.out,by omega,by simp;omega,by rw [zhf,zjz,vam];exact HO5'.out,HR5.out,HK5.out⟩
      case measure=>rw [hl5,hle];omega
  . have HP:Hid (zeg (f+1) l=some (acc,l'.tail)):=by show zeg (f+1) l=_;rw [HG.out];unfold zgq;rw [if_neg (by simp [h1]),if_pos h2]
    have HO3:Hid (Row w.heap.size 174 5 w3 u3 acc.length (zbo acc)):=HO.out.keeps HK3 hRw;go_wp2_with fail;go_ret;exact ⟨HE.out.trans HK3,Or.inr ⟨acc,l'.tail,_,HP.out,rfl,HO3.out.slice,HR3⟩⟩
set_option maxHeartbeats 3200000
abbrev zcg:Obj:=.cells #[.int .i64 0,.int .i64 0,.string ⟨#[]⟩,.string ⟨#[]⟩,.slice none 0 0] 174 (0,0)
theorem zna {R cap:Nat} {a:OA} {ts l l':List Tk} {w w1:World} {r:Option (Ex × List Tk)} {x:Ex} {a1:OA} {c1:Nat} (h0:Rd R a cap ts w l) (hr:r=some (x,l')) (hk:Keeps R w w1) (hrd:Rd R a cap ts w1 l')
 (hx1:x.mod.size<=maxLen) (hx2:x.name.size<=maxLen) {lo:Nat} (hx:EAt w1 (lo<=·) a1 x.args.length (zbo x.args)) (hlo:w.heap.size<lo) :
 zd4 R a cap ts w r (zgs (w.heap.size<=·)) (.returned (.agg #[.int .i64 x.op,.int .i64 x.n,.string x.mod,.string x.name,.slice a1 x.args.length c1])) (set5 w1 w.heap.size (.int .i64 x.op) (.int .i64 x.n) (.string x.mod) (.string x.name) (.slice a1 x.args.length c1)):=by
 refine ⟨hk.set5 (vaa _) _ _ _ _ _,Or.inr ⟨x,l',_,hr,rfl,⟨a1,c1,rfl,hx1,hx2,?_⟩,hrd.set5 h0 (vaa _) _ _ _ _ _⟩⟩;exact hx.moves (((zad.refl w1 (lo<=·)).set5 (by intro b _ hb;omega) _ _ _ _ _).to (by omega))
theorem z5i {R cap:Nat} {a:OA} {ts l l':List Tk} {w w1:World} {r:Option (Ex × List Tk)} {op n:Int} {mod name:ByteArray} {y:Ex} {a1:OA} {c1:Nat} (h0:Rd R a cap ts w l) (hr:r=some (.mk op n mod name [y],l')) (hk:Keeps R w w1) (hrd:Rd R a cap ts w1 l')
 (hx1:mod.size<=maxLen) (hx2:name.size<=maxLen) {lo:Nat} (hy1:y.mod.size<=maxLen) (hy2:y.name.size<=maxLen) (hy:EAt w1 (lo<=·) a1 y.args.length (zbo y.args)) (hlo:w.heap.size<lo) (hlo1:lo<=w1.heap.size) :
 zd4 R a cap ts w r (zgs (w.heap.size<=·)) (.returned (.agg #[.int .i64 op,.int .i64 n,.string mod,.string name,.slice (some ⟨w1.heap.size,0,none⟩) 1 1])) ((set5 w1 w.heap.size (.int .i64 op) (.int .i64 n) (.string mod) (.string name) (.slice (some ⟨w1.heap.size,0,none⟩) 1 1)).alloc (.cells #[.int .i64 y.op,.int .i64 y.n,.string y.mod,.string y.name,.slice a1 y.args.length c1] 174)):=by
 refine ⟨(hk.set5 (vaa _) _ _ _ _ _).alloc _,Or.inr ⟨.mk op n mod name [y],l',_,hr,rfl,⟨_,_,rfl,hx1,hx2,?_⟩,(hrd.set5 h0 (vaa _) _ _ _ _ _).alloc _⟩⟩;refine zkx (t:=174) (cap:=c1) hy1 hy2 hy ((((zad.refl w1 (lo<=·)).set5 (b:=w.heap.size) (by intro b _ hb;omega) _ _ _ _ _).alloc _).to (by omega)) ?_ (by omega);have e:=heap_newP (set5 w1 w.heap.size (.int .i64 op) (.int .i64 n) (.string mod) (.string name) (.slice (some ⟨w1.heap.size,0,none⟩) 1 1)) (.cells #[.int .i64 y.op,.int .i64 y.n,.string y.mod,.string y.name,.slice a1 y.args.length c1] 174);simp only [vaq] at e;exact e
theorem zzd (R cap:Nat) (a:OA) (ts:List Tk) (f:Nat) (IH:ExC R cap a ts f) (l:List Tk) (w:World) (h:Rd R a cap ts w l) (hf:3*l.length+1<=f+1) :
 Calls Tryz.prog 283 #[.pointer (some ⟨R,0,none⟩)] w (zd4 R a cap ts w (zbm (f+1) l) (zgs (w.heap.size<=·))):=by
 have HI:Hid (ExC R cap a ts f):=IH;have HR:Hid (Rd R a cap ts w l):=h;have hRw:=h.lt;have hf0:=z34 (hd l).kind (hd l).n (hd l).text;clear IH h;go_enter Tryz.func283,Tryz.ntmps283;go_wp2_with fail;refine (zqt R cap a ts l _ (HR.out.alloc _)).mono ?_;rintro e w1 ⟨rfl,hb1⟩;have HR1:Hid (Rd R a cap ts w1 l):=(HR.out.alloc _).later hb1;have HK1:Hid (Keeps R w w1):=((Keeps.refl R w).alloc _).later hb1;have HB1:Hid (w1.heap[w.heap.size]? = some zcg):=(hb1.block w.heap.size (by simp)).trans (heap_newP _ _);have hz1:=hb1.size;simp at hz1;clear hb1
 by_cases hk:(hd l).kind=2
 . have HP:Hid (zbm (f+1) l=some (.mk 1 (hd l).n ⟨#[]⟩ ⟨#[]⟩ [],l.tail)):=by show zbm (f+1) l=_;unfold zbm;rw [if_pos hk]
   have HQ:Hid (pNum l=some ((hd l).n,l.tail)):=by show pNum l=_;unfold pNum;rw [if_pos hk]
   have hf0':=z34 2 (hd l).n (hd l).text;go_wp2_with fail;refine (zg9 R cap a ts l w1 HR1.out).mono ?_;rintro e w2 ⟨HK2,⟨hn,rfl⟩ | ⟨n,l2,v,hn,rfl,rfl,HR2⟩⟩
   . rw [HQ.out] at hn;cases hn
   rw [HQ.out] at hn;obtain ⟨rfl,rfl⟩:=vao (vab hn);have HB2:Hid (w2.heap[w.heap.size]? = some zcg):=(HK2.block w.heap.size (by omega) (by omega)).trans HB1.out;obtain ⟨h0,h1,h2,h3,h4,h5⟩:=zaa HB2.out;have hz2:=HK2.size
   have hq0:w.heap.size<w2.heap.size:=by omega
   have HF:Hid (zd4 R a cap ts w (zbm (f+1) l) (zgs (w.heap.size<=·)) (.returned (.agg #[.int .i64 1,.int .i64 (hd l).n,.string ⟨#[]⟩,.string ⟨#[]⟩,.slice none 0 0])) (set5 w2 w.heap.size (.int .i64 1) (.int .i64 (hd l).n) (.string ⟨#[]⟩) (.string ⟨#[]⟩) (.slice none 0 0))):=
    zna (x:=.mk 1 (hd l).n ⟨#[]⟩ ⟨#[]⟩ []) HR.out HP.out (HK1.out.trans HK2) HR2 (vag _) (vag _) (lo:=w2.heap.size) (Or.inl rfl) hq0
   clear hn HR2 HK2;go_wp2_with fail;refine bodyPost_ret (v:=.agg #[.int .i64 1,.int .i64 (hd l).n,.string ⟨#[]⟩,.string ⟨#[]⟩,.slice none 0 0]) (by simp [results,Tryz.results283,go_sem,h0,h1,h2,h3,h4]) rfl HF.out
 go_wp2_with fail
 by_cases hs2:skB l tIn=true
 . refine (zbl R cap a ts l tIn w1 (by decide) HR1.out hs2).mono ?_
   rintro e w2 ⟨rfl,HR2,HK2⟩;have HB2:Hid (w2.heap[w.heap.size]? = some zcg):=(HK2.block w.heap.size (by omega) (by omega)).trans HB1.out;obtain ⟨h0,h1,h2,h3,h4,h5⟩:=zaa HB2.out;have hz2:=HK2.size
   have hq0:w.heap.size<w2.heap.size:=by omega
   have HF:Hid (zd4 R a cap ts w (zbm (f+1) l) (zgs (w.heap.size<=·)) (.returned (.agg #[.int .i64 2,.int .i64 0,.string ⟨#[]⟩,.string ⟨#[]⟩,.slice none 0 0])) (set5 w2 w.heap.size (.int .i64 2) (.int .i64 0) (.string ⟨#[]⟩) (.string ⟨#[]⟩) (.slice none 0 0))):=
    zna (x:=.mk 2 0 ⟨#[]⟩ ⟨#[]⟩ []) HR.out (by unfold zbm;rw [if_neg hk,if_pos hs2]) (HK1.out.trans HK2) HR2 (vag _) (vag _) (lo:=w2.heap.size) (Or.inl rfl) hq0
   clear HR2 HK2;go_wp2_with fail;refine bodyPost_ret (v:=.agg #[.int .i64 2,.int .i64 0,.string ⟨#[]⟩,.string ⟨#[]⟩,.slice none 0 0]) (by simp [results,Tryz.results283,go_sem,h0,h1,h2,h3,h4]) rfl HF.out
 refine (zb2 R cap a ts l tIn w1 HR1.out (by simpa using hs2)).mono ?_;rintro e w2 ⟨rfl,HR2,HK2⟩;have HR2':Hid (Rd R a cap ts w2 l):=HR2;have HK2':Hid (Keeps R w w2):=HK1.out.trans HK2;have HB2:Hid (w2.heap[w.heap.size]? = some zcg):=(HK2.block w.heap.size (by omega) (by omega)).trans HB1.out;have hz2:=HK2.size;clear HR2 HK2 HR1 HK1 HB1;go_wp2_with fail
 by_cases hs3:skB l z6z=true
 . have hl3:=zah (by decide) hs3
   refine (zbl R cap a ts l z6z w2 (by decide) HR2'.out hs3).mono ?_;rintro e w3 ⟨rfl,HR3,HK3⟩;have hz3:=HK3.size;have HB3:Hid (w3.heap[w.heap.size]? = some zcg):=(HK3.block w.heap.size (by omega) (by omega)).trans HB2.out;go_wp2_with fail;refine (HI.out.expr l.tail w3 HR3 (by omega)).mono ?_;rintro e w4 ⟨HK4,⟨hn,rfl⟩ | ⟨y,l4,v,hn,rfl,⟨a4,c4,rfl,hy1,hy2,hy3⟩,HR4⟩⟩
   . exact ⟨rfl,(HK2'.out.trans HK3).trans HK4,Or.inl ⟨by unfold zbm;rw [if_neg hk,if_neg hs2,if_pos hs3,hn],rfl⟩⟩
   have HB4:Hid (w4.heap[w.heap.size]? = some zcg):=(HK4.block w.heap.size (by omega) (by omega)).trans HB3.out;obtain ⟨h0,h1,h2,h3,h4,h5⟩:=zaa HB4.out;have hz4:=HK4.size
   have hq0:w.heap.size<w4.heap.size:=by omega
   have HF:Hid (zd4 R a cap ts w (zbm (f+1) l) (zgs (w.heap.size<=·)) (.returned (.agg #[.int .i64 6,.int .i64 0,.string ⟨#[]⟩,.string ⟨#[]⟩,.slice (some ⟨w4.heap.size,0,none⟩) 1 1])) ((set5 w4 w.heap.size (.int .i64 6) (.int .i64 0) (.string ⟨#[]⟩) (.string ⟨#[]⟩) (.slice (some ⟨w4.heap.size,0,none⟩) 1 1)).alloc (.cells #[.int .i64 y.op,.int .i64 y.n,.string y.mod,.string y.name,.slice a4 y.args.length c4] 174))):=
    z5i HR.out (by unfold zbm;rw [if_neg hk,if_neg hs2,if_pos hs3,hn]) ((HK2'.out.trans HK3).trans HK4) HR4 (vag _) (vag _) hy1 hy2 hy3 (by omega) hz4
   clear hn HR3 HR4 HK3 HK4 hy1 hy2 hy3;go_wp2_with fail;refine bodyPost_ret (v:=.agg #[.int .i64 6,.int .i64 0,.string ⟨#[]⟩,.string ⟨#[]⟩,.slice (some ⟨w4.heap.size,0,none⟩) 1 1]) (by simp [results,Tryz.results283,go_sem,h0,h1,h2,h3,h4,hq0]) rfl HF.out
 refine (zb2 R cap a ts l z6z w2 HR2'.out (by simpa using hs3)).mono ?_;rintro e w3 ⟨rfl,HR3,HK3⟩;have HR3':Hid (Rd R a cap ts w3 l):=HR3;have HK3':Hid (Keeps R w w3):=HK2'.out.trans HK3;have HB3:Hid (w3.heap[w.heap.size]? = some zcg):=(HK3.block w.heap.size (by omega) (by omega)).trans HB2.out;have hz3:=HK3.size;clear HR3 HK3 HR2' HK2' HB2;go_wp2_with fail
 by_cases hs4:skB l tLp=true
 . have hl4:=zah (by decide) hs4
   refine (zbl R cap a ts l tLp w3 (by decide) HR3'.out hs4).mono ?_;rintro e w4 ⟨rfl,HR4,HK4⟩;have hz4:=HK4.size;have HB4:Hid (w4.heap[w.heap.size]? = some zcg):=(HK4.block w.heap.size (by omega) (by omega)).trans HB3.out;go_wp2_with fail;refine (HI.out.pair l.tail w4 HR4 (by omega)).mono ?_;rintro e w5 ⟨HK5,⟨hn,rfl⟩ | ⟨y,l5,v,hn,rfl,⟨a5,c5,rfl,hy1,hy2,hy3⟩,HR5⟩⟩
   . exact ⟨rfl,(HK3'.out.trans HK4).trans HK5,Or.inl ⟨by unfold zbm;rw [if_neg hk,if_neg hs2,if_neg hs3,if_pos hs4,hn],rfl⟩⟩
   have HB5:Hid (w5.heap[w.heap.size]? = some zcg):=(HK5.block w.heap.size (by omega) (by omega)).trans HB4.out;obtain ⟨h0,h1,h2,h3,h4,h5⟩:=zaa HB5.out;have hz5:=HK5.size
   have HF:Hid (zd4 R a cap ts w (zbm (f+1) l) (zgs (w.heap.size<=·)) (.returned (.agg #[.int .i64 y.op,.int .i64 y.n,.string y.mod,.string y.name,.slice a5 y.args.length c5])) (set5 w5 w.heap.size (.int .i64 y.op) (.int .i64 y.n) (.string y.mod) (.string y.name) (.slice a5 y.args.length c5))):=
    zna (x:=y) HR.out (by unfold zbm;rw [if_neg hk,if_neg hs2,if_neg hs3,if_pos hs4,hn]) ((HK3'.out.trans HK4).trans HK5) HR5 hy1 hy2 (lo:=w4.heap.size) hy3 (by omega)
   clear hn HR4 HR5 HK4 HK5 hy1 hy2 hy3;go_wp2_with fail;refine bodyPost_ret (v:=.agg #[.int .i64 y.op,.int .i64 y.n,.string y.mod,.string y.name,.slice a5 y.args.length c5]) (by simp [results,Tryz.results283,go_sem,h0,h1,h2,h3,h4]) rfl HF.out
 refine (zb2 R cap a ts l tLp w3 HR3'.out (by simpa using hs4)).mono ?_;rintro e w4 ⟨rfl,HR4,HK4⟩;have HR4':Hid (Rd R a cap ts w4 l):=HR4;have HK4':Hid (Keeps R w w4):=HK3'.out.trans HK4;have HB4:Hid (w4.heap[w.heap.size]? = some zcg):=(HK4.block w.heap.size (by omega) (by omega)).trans HB3.out;have hz4:=HK4.size
 have HPX:Hid (zbm (f+1) l=match zw7 l with
  | none=>none
  | some ((m,n),l1)=>
    if skB l1 tLs then (match zbm f l1.tail with | none=>none | some (x,l2)=>if skB l2 tRs then some (.mk 4 0 m n [x],l2.tail) else none)
    else if skB l1 tLp then (match zeg f l1.tail with | none=>none | some (xs,l2)=>some (.mk 5 0 m n xs,l2))
    else some (.mk 3 0 m n [],l1)):=by
  show zbm (f+1) l=_
  conv=>lhs;unfold zbm
  rw [if_neg hk,if_neg hs2,if_neg hs3,if_neg hs4]
  rfl
 clear HR4 HK4 HR3' HK3' HB3 hk hs2 hs3 hs4;go_wp2_with fail;refine (zy7 R cap a ts l _ (HR4'.out.alloc _)).mono ?_;rintro e w5 ⟨HK5,⟨hn,rfl⟩ | ⟨⟨m,n⟩,l5,v,hn,rfl,⟨rfl,hm,hnn⟩,HR5⟩⟩
 . exact ⟨rfl,(HK4'.out.alloc _).trans HK5,Or.inl ⟨by rw [HPX.out,hn],rfl⟩⟩
 have hl5:=zru hn
 have HPY:Hid (zbm (f+1) l=if skB l5 tLs then (match zbm f l5.tail with | none=>none | some (x,l2)=>if skB l2 tRs then some (.mk 4 0 m n [x],l2.tail) else none)
  else if skB l5 tLp then (match zeg f l5.tail with | none=>none | some (xs,l2)=>some (.mk 5 0 m n xs,l2))
  else some (.mk 3 0 m n [],l5)):=by
  show zbm (f+1) l=_;rw [HPX.out,hn]
 have HR5':Hid (Rd R a cap ts w5 l5):=HR5;have HK5':Hid (Keeps R w w5):=(HK4'.out.alloc _).trans HK5;have HB5:Hid (w5.heap[w.heap.size]? = some zcg):=(HK5.block w.heap.size (by simp;omega) (by omega)).trans (zab HB4.out);have HC5:Hid (w5.heap[w4.heap.size]? = some (.cells #[.int .i64 3,.int .i64 0,.string ⟨#[]⟩,.string ⟨#[]⟩,.slice none 0 0] 174 (0,0))):=(HK5.block w4.heap.size (by simp) (by omega)).trans (heap_newP _ _);have hz5:=HK5.size;simp at hz5;obtain ⟨h0,h1,h2,h3,h4,h5⟩:=zaa HC5.out;clear hn HR5 HK5 HPX HR4' HB4 HK4';have HR6:Hid (Rd R a cap ts ((w5.setCell ⟨w4.heap.size,2,none⟩ (.string m)).setCell ⟨w4.heap.size,3,none⟩ (.string n)) l5):=(HR5'.out.setAbove HR.out (by show _<=w4.heap.size;omega) _).setAbove HR.out (by show _<=w4.heap.size;omega) _;have HK6:Hid (Keeps R w ((w5.setCell ⟨w4.heap.size,2,none⟩ (.string m)).setCell ⟨w4.heap.size,3,none⟩ (.string n))):=(HK5'.out.set (by show _<=w4.heap.size;omega) _).set (by show _<=w4.heap.size;omega) _
 have HB6:Hid (((w5.setCell ⟨w4.heap.size,2,none⟩ (.string m)).setCell ⟨w4.heap.size,3,none⟩ (.string n)).heap[w.heap.size]? = some zcg):=(heap_set_ne (by show w.heap.size≠w4.heap.size;omega) _).trans ((heap_set_ne (by show w.heap.size≠w4.heap.size;omega) _).trans HB5.out);have HC6:Hid (((w5.setCell ⟨w4.heap.size,2,none⟩ (.string m)).setCell ⟨w4.heap.size,3,none⟩ (.string n)).heap[w4.heap.size]? = some (.cells #[.int .i64 3,.int .i64 0,.string m,.string n,.slice none 0 0] 174 (0,0))):=heap_set (heap_set HC5.out _) _
 have hz6:((w5.setCell ⟨w4.heap.size,2,none⟩ (.string m)).setCell ⟨w4.heap.size,3,none⟩ (.string n)).heap.size=w5.heap.size:=by simp only [vaq]
 clear HR5' HK5' HB5;go_wp2_with fail;generalize (w5.setCell ⟨w4.heap.size,2,none⟩ (.string m)).setCell ⟨w4.heap.size,3,none⟩ (.string n)=w6 at *;clear h0 h1 h2 h3 h4 h5 HC5
 by_cases hs7:skB l5 tLs=true
 . have hl7:=zah (by decide) hs7
   refine (zbl R cap a ts l5 tLs w6 (by decide) HR6.out hs7).mono ?_;rintro e w7 ⟨rfl,HR7,HK7⟩;have hz7:=HK7.size;have HB7:Hid (w7.heap[w.heap.size]? = some zcg):=(HK7.block w.heap.size (by omega) (by omega)).trans HB6.out;have HC7:Hid (w7.heap[w4.heap.size]? = some (.cells #[.int .i64 3,.int .i64 0,.string m,.string n,.slice none 0 0] 174 (0,0))):=(HK7.block w4.heap.size (by omega) (by omega)).trans HC6.out;obtain ⟨h0,h1,h2,h3,h4,h5⟩:=zaa HC7.out;have HR8:Hid (Rd R a cap ts (w7.setCell ⟨w4.heap.size,0,none⟩ (.int .i64 4)) l5.tail):=HR7.setAbove HR.out (by show _<=w4.heap.size;omega) _;have HK8:Hid (Keeps R w (w7.setCell ⟨w4.heap.size,0,none⟩ (.int .i64 4))):=(HK6.out.trans HK7).set (by show _<=w4.heap.size;omega) _;have HB8:Hid ((w7.setCell ⟨w4.heap.size,0,none⟩ (.int .i64 4)).heap[w.heap.size]? = some zcg):=(heap_set_ne (by show w.heap.size≠w4.heap.size;omega) _).trans HB7.out
   have HC8:Hid ((w7.setCell ⟨w4.heap.size,0,none⟩ (.int .i64 4)).heap[w4.heap.size]? = some (.cells #[.int .i64 4,.int .i64 0,.string m,.string n,.slice none 0 0] 174 (0,0))):=heap_set HC7.out _
   have hz8:(w7.setCell ⟨w4.heap.size,0,none⟩ (.int .i64 4)).heap.size=w7.heap.size:=by simp only [vaq]
   clear HR7 HK7 HB7 HR6 HK6 HB6 HC6;go_wp2_with fail;generalize w7.setCell ⟨w4.heap.size,0,none⟩ (.int .i64 4)=w8 at *;clear h0 h1 h2 h3 h4 h5 HC7;refine (HI.out.expr l5.tail w8 HR8.out (by omega)).mono ?_;rintro e w9 ⟨HK9,⟨hn,rfl⟩ | ⟨y,l9,v,hn,rfl,⟨a9,c9,rfl,hy1,hy2,hy3⟩,HR9⟩⟩
   . exact ⟨rfl,HK8.out.trans HK9,Or.inl ⟨by rw [HPY.out,if_pos hs7,hn],rfl⟩⟩
   have hz9:=HK9.size;have HB9:Hid (w9.heap[w.heap.size]? = some zcg):=(HK9.block w.heap.size (by omega) (by omega)).trans HB8.out;have HC9:Hid (w9.heap[w4.heap.size]? = some (.cells #[.int .i64 4,.int .i64 0,.string m,.string n,.slice none 0 0] 174 (0,0))):=(HK9.block w4.heap.size (by omega) (by omega)).trans HC8.out;obtain ⟨h0,h1,h2,h3,h4,h5⟩:=zaa HC9.out
   have hq4:w4.heap.size<w9.heap.size:=by omega
   have HN9:Hid (zbm f l5.tail=some (y,l9)):=hn
   have HY9:Hid (y.mod.size<=maxLen/\y.name.size<=maxLen/\EAt w9 (w8.heap.size<=·) a9 y.args.length (zbo y.args)):=⟨hy1,hy2,hy3⟩
   have HR9':Hid (Rd R a cap ts w9 l9):=HR9;have HK9':Hid (Keeps R w w9):=HK8.out.trans HK9;clear hn HR9 HK9 hy1 hy2 hy3 HB8 HC8 HR8 HK8;go_wp2_with fail;refine (zfk R cap _ a ts l9 tRs _ (by simp) ((HR9'.out.setAbove HR.out (by show _<=w4.heap.size;omega) _).alloc _) (by decide)).mono ?_;rintro e w10 ⟨HK10,⟨hs5,rfl⟩ | ⟨hs5,rfl,HR10⟩⟩
   . exact ⟨rfl,((HK9'.out.set (by show _<=w4.heap.size;omega) _).alloc _).trans HK10,Or.inl ⟨by rw [HPY.out,if_pos hs7,HN9.out];simp [hs5],rfl⟩⟩
   have HP:Hid (zbm (f+1) l=some (.mk 4 0 m n [y],l9.tail)):=by show zbm (f+1) l=_;rw [HPY.out,if_pos hs7,HN9.out];simp [hs5]
   have hz10:=HK10.size;simp at hz10;have HB10:Hid (w10.heap[w.heap.size]? = some zcg):=(HK10.block w.heap.size (by simp;omega) (by omega)).trans (zab ((heap_set_ne (by show w.heap.size≠w4.heap.size;omega) _).trans HB9.out));have HC10:Hid (w10.heap[w4.heap.size]? = some (.cells #[.int .i64 4,.int .i64 0,.string m,.string n,.slice (some ⟨w9.heap.size,0,none⟩) 1 1] 174 (0,0))):=(HK10.block w4.heap.size (by simp;omega) (by omega)).trans (zab (heap_set HC9.out _))
   have HD10:Hid (w10.heap[w9.heap.size]? = some (.cells #[.int .i64 y.op,.int .i64 y.n,.string y.mod,.string y.name,.slice a9 y.args.length c9] 174 (0,0))):=(HK10.block w9.heap.size (by simp) (by omega)).trans (by
    have e:=heap_newP (w9.setCell ⟨w4.heap.size,4,none⟩ (.slice (some ⟨w9.heap.size,0,none⟩) 1 1)) (.cells #[.int .i64 y.op,.int .i64 y.n,.string y.mod,.string y.name,.slice a9 y.args.length c9] 174);simp only [vaq] at e
    exact e)
   have HM10:zad w9 (w8.heap.size<=·) w10 (w8.heap.size<=·):=(((zad.refl w9 _).set (by intro b _ hb;show b≠w4.heap.size;omega) _).alloc _).keeps HK10 (by intro b _ hb;omega)
   have HF:Hid (zd4 R a cap ts w (zbm (f+1) l) (zgs (w.heap.size<=·)) (.returned (.agg #[.int .i64 4,.int .i64 0,.string m,.string n,.slice (some ⟨w9.heap.size,0,none⟩) 1 1])) (set5 w10 w.heap.size (.int .i64 4) (.int .i64 0) (.string m) (.string n) (.slice (some ⟨w9.heap.size,0,none⟩) 1 1))):=
    zna (x:=.mk 4 0 m n [y]) HR.out HP.out (((HK9'.out.set (by show _<=w4.heap.size;omega) _).alloc _).trans HK10) HR10 hm hnn (lo:=w8.heap.size) (zkx HY9.out.1 HY9.out.2.1 HY9.out.2.2 HM10 HD10.out (by omega)) (by omega)
   obtain ⟨h0,h1,h2,h3,h4,h5⟩:=zaa HB10.out;obtain ⟨g0,g1,g2,g3,g4,g5⟩:=zaa HC10.out;clear HK10 HR10 HM10;go_wp2_with fail;refine bodyPost_ret (v:=.agg #[.int .i64 4,.int .i64 0,.string m,.string n,.slice (some ⟨w9.heap.size,0,none⟩) 1 1]) (by simp [results,Tryz.results283,go_sem,h0,h1,h2,h3,h4]) rfl HF.out
 refine (zb2 R cap a ts l5 tLs w6 HR6.out (by simpa using hs7)).mono ?_;rintro e w7 ⟨rfl,HR7,HK7⟩;have hz7:=HK7.size;have HR7':Hid (Rd R a cap ts w7 l5):=HR7;have HK7':Hid (Keeps R w w7):=HK6.out.trans HK7;have HB7:Hid (w7.heap[w.heap.size]? = some zcg):=(HK7.block w.heap.size (by omega) (by omega)).trans HB6.out;have HC7:Hid (w7.heap[w4.heap.size]? = some (.cells #[.int .i64 3,.int .i64 0,.string m,.string n,.slice none 0 0] 174 (0,0))):=(HK7.block w4.heap.size (by omega) (by omega)).trans HC6.out;clear HR7 HK7 HR6 HK6 HB6 HC6;go_wp2_with fail
 by_cases hs8:skB l5 tLp=true
 . have hl8:=zah (by decide) hs8
   refine (zbl R cap a ts l5 tLp w7 (by decide) HR7'.out hs8).mono ?_;rintro e w8 ⟨rfl,HR8,HK8⟩;have hz8:=HK8.size;have HB8:Hid (w8.heap[w.heap.size]? = some zcg):=(HK8.block w.heap.size (by omega) (by omega)).trans HB7.out;have HC8:Hid (w8.heap[w4.heap.size]? = some (.cells #[.int .i64 3,.int .i64 0,.string m,.string n,.slice none 0 0] 174 (0,0))):=(HK8.block w4.heap.size (by omega) (by omega)).trans HC7.out;obtain ⟨h0,h1,h2,h3,h4,h5⟩:=zaa HC8.out;have HR9:Hid (Rd R a cap ts (w8.setCell ⟨w4.heap.size,0,none⟩ (.int .i64 5)) l5.tail):=HR8.setAbove HR.out (by show _<=w4.heap.size;omega) _;have HK9:Hid (Keeps R w (w8.setCell ⟨w4.heap.size,0,none⟩ (.int .i64 5))):=(HK7'.out.trans HK8).set (by show _<=w4.heap.size;omega) _;have HB9:Hid ((w8.setCell ⟨w4.heap.size,0,none⟩ (.int .i64 5)).heap[w.heap.size]? = some zcg):=(heap_set_ne (by show w.heap.size≠w4.heap.size;omega) _).trans HB8.out
   have HC9:Hid ((w8.setCell ⟨w4.heap.size,0,none⟩ (.int .i64 5)).heap[w4.heap.size]? = some (.cells #[.int .i64 5,.int .i64 0,.string m,.string n,.slice none 0 0] 174 (0,0))):=heap_set HC8.out _
   have hz9:(w8.setCell ⟨w4.heap.size,0,none⟩ (.int .i64 5)).heap.size=w8.heap.size:=by simp only [vaq]
   clear HR8 HK8 HB8 HR7' HK7' HB7 HC7;go_wp2_with fail;generalize w8.setCell ⟨w4.heap.size,0,none⟩ (.int .i64 5)=w9 at *;clear h0 h1 h2 h3 h4 h5 HC8;refine (HI.out.args l5.tail w9 HR9.out (by omega)).mono ?_;rintro e w10 ⟨HK10,⟨hn,rfl⟩ | ⟨xs,l10,v,hn,rfl,⟨a10,c10,rfl,hx10⟩,HR10⟩⟩
   . exact ⟨rfl,HK9.out.trans HK10,Or.inl ⟨by rw [HPY.out,if_neg hs7,if_pos hs8,hn],rfl⟩⟩
   have hz10:=HK10.size
   have HP:Hid (zbm (f+1) l=some (.mk 5 0 m n xs,l10)):=by show zbm (f+1) l=_;rw [HPY.out,if_neg hs7,if_pos hs8,hn]
   have HB10:Hid (w10.heap[w.heap.size]? = some zcg):=(HK10.block w.heap.size (by omega) (by omega)).trans HB9.out;have HC10:Hid (w10.heap[w4.heap.size]? = some (.cells #[.int .i64 5,.int .i64 0,.string m,.string n,.slice none 0 0] 174 (0,0))):=(HK10.block w4.heap.size (by omega) (by omega)).trans HC9.out
   have HF:Hid (zd4 R a cap ts w (zbm (f+1) l) (zgs (w.heap.size<=·)) (.returned (.agg #[.int .i64 5,.int .i64 0,.string m,.string n,.slice a10 xs.length c10])) (set5 (w10.setCell ⟨w4.heap.size,4,none⟩ (.slice a10 xs.length c10)) w.heap.size (.int .i64 5) (.int .i64 0) (.string m) (.string n) (.slice a10 xs.length c10))):=
    zna (x:=.mk 5 0 m n xs) HR.out HP.out ((HK9.out.trans HK10).set (by show _<=w4.heap.size;omega) _) (HR10.setAbove HR.out (by show _<=w4.heap.size;omega) _) hm hnn (lo:=w9.heap.size) (hx10.moves ((zad.refl w10 _).set (by intro b _ hb;show b≠w4.heap.size;omega) _)) (by omega)
   obtain ⟨h0,h1,h2,h3,h4,h5⟩:=zaa HB10.out;obtain ⟨g0,g1,g2,g3,g4,g5⟩:=zaa HC10.out
   have hne:w.heap.size≠w4.heap.size:=by omega
   clear HK10 HR10 hn;go_wp2_with fail;refine bodyPost_ret (v:=.agg #[.int .i64 5,.int .i64 0,.string m,.string n,.slice a10 xs.length c10]) (by simp [results,Tryz.results283,go_sem,h0,h1,h2,h3,h4]) rfl HF.out
 refine (zb2 R cap a ts l5 tLp w7 HR7'.out (by simpa using hs8)).mono ?_;rintro e w8 ⟨rfl,HR8,HK8⟩;have hz8:=HK8.size;have HB8:Hid (w8.heap[w.heap.size]? = some zcg):=(HK8.block w.heap.size (by omega) (by omega)).trans HB7.out;have HC8:Hid (w8.heap[w4.heap.size]? = some (.cells #[.int .i64 3,.int .i64 0,.string m,.string n,.slice none 0 0] 174 (0,0))):=(HK8.block w4.heap.size (by omega) (by omega)).trans HC7.out
 have HF:Hid (zd4 R a cap ts w (zbm (f+1) l) (zgs (w.heap.size<=·)) (.returned (.agg #[.int .i64 3,.int .i64 0,.string m,.string n,.slice none 0 0])) (set5 w8 w.heap.size (.int .i64 3) (.int .i64 0) (.string m) (.string n) (.slice none 0 0))):=
  zna (x:=.mk 3 0 m n []) HR.out (by rw [HPY.out,if_neg hs7,if_neg hs8]) (HK7'.out.trans HK8) HR8 hm hnn (lo:=w8.heap.size) (Or.inl rfl) (by omega)
 obtain ⟨h0,h1,h2,h3,h4,h5⟩:=zaa HB8.out;obtain ⟨g0,g1,g2,g3,g4,g5⟩:=zaa HC8.out;clear HK8 HR8;go_wp2_with fail;refine bodyPost_ret (v:=.agg #[.int .i64 3,.int .i64 0,.string m,.string n,.slice none 0 0]) (by simp [results,Tryz.results283,go_sem,h0,h1,h2,h3,h4]) rfl HF.out
theorem z35 (R cap:Nat) (a:OA) (ts:List Tk):∀ f,ExC R cap a ts f:=by
 intro f
 induction f using Nat.strongRecOn with
 | ind f ih=>
   cases f with
   | zero=>exact ⟨fun _ _ _ h=>by omega,fun _ _ _ h=>by omega,fun _ _ _ h=>by omega⟩
   | succ f=>
     exact ⟨fun l w h hf=>zzd R cap a ts f (ih f (by omega)) l w h hf,fun l w h hf=>zzb R cap a ts f (ih f (by omega)) l w h hf,fun l w h hf=>zzc R cap a ts f (fun g hg=>ih g (by omega)) l w h hf⟩
theorem zet (R cap:Nat) (a:OA) (ts l:List Tk) (w:World) (h:Rd R a cap ts w l) :
 Calls Tryz.prog 283 #[.pointer (some ⟨R,0,none⟩)] w (zd4 R a cap ts w (pX l) (zgs (w.heap.size<=·))):=(z35 R cap a ts _).expr l w h (by omega)
theorem z12 (R cap:Nat) (a:OA) (ts l:List Tk) (w:World) (h:Rd R a cap ts w l) :
 Calls Tryz.prog 295 #[.pointer (some ⟨R,0,none⟩)] w (zd4 R a cap ts w (pAs l) (z84 (w.heap.size<=·))):=(z35 R cap a ts _).args l w h (by omega)
end Go.Proofs.YtndkhgakfodldaaGreatDoor

namespace Go.Proofs.YtndkhgakfodldaaGreatDoor
set_option maxRecDepth 100000
set_option maxHeartbeats 3200000
open Go.RowKit Go.Shelf
section
variable {P:Program} {ops:Array Oper} {o:Oper} {a:Act} {w:World} {K:Act->World->Prop} {Q:Exit->Act->World->Prop} {E:Prop}
theorem znb (f:FuncId) (x:Operand) (ty:TypeId) (ho:o.op = .call { callee:=.value (.func f),args:=#[x],argTypes:=#[ty] })
 (hen:Enters P f) (v:Value) (hx:a.eval x=v):(execOp a.eval o).run P w = .ok (.enter f #[v]) w:=by
 have h:=hen #[v] w;have hf:a.eval (.func f) = .func (.func f) #[] #[]:=rfl;simp [execOp,ho,resolve,invoke,hx,hf,h,Deferred.ofValue]
theorem zb9 (hgd:o.guard=none) (f:FuncId) (x:Operand) (ty:TypeId) (ho:o.op = .call { callee:=.value (.func f),args:=#[x],argTypes:=#[ty] })
 (hen:Enters P f) (v:Value) (hx:a.eval x=v) {R:Value->World->Prop} (hC:Calls P f #[v] w fun e w'=>∃ u,e = .returned u/\R u w')
 (h:∀ u w',R u w'->K (a.put o.dst u) w'):if Region.wanted o (yielded ops a.tmps)=true then Oper.wp P o a w K Q else E:=by
 have hw:Region.wanted o (yielded ops a.tmps)=true:=by simp [Region.wanted,hgd]
 rw [if_pos hw];unfold Oper.wp;rw [znb f x ty ho hen v hx,vdn];refine hC.mono ?_;rintro e w' ⟨u,rfl,hR⟩;exact h u w' hR
theorem zbf (hgd:o.guard=none) (f:FuncId) (x:Operand) (ty:TypeId) (ho:o.op = .call { callee:=.value (.func f),args:=#[x],argTypes:=#[ty] })
 (hen:Enters P f) (v:Value) (hx:a.eval x=v) (c:List PanicEntry) {R:World->Prop} (hC:Calls P f #[v] w fun e w'=>e = .panicked c/\R w')
 (h:∀ w',R w'->Q (.panic c) a w'):if Region.wanted o (yielded ops a.tmps)=true then Oper.wp P o a w K Q else E:=by
 have hw:Region.wanted o (yielded ops a.tmps)=true:=by simp [Region.wanted,hgd]
 rw [if_pos hw];unfold Oper.wp;rw [znb f x ty ho hen v hx,vdn];refine hC.mono ?_;rintro e w' ⟨rfl,hR⟩;exact h w' hR
end
def zf7 (A:Nat->Prop) (s:St) (w:World) (v:Value):Prop:=∃ a1 c1 a2 c2 a3 c3,v = .agg #[.int .i64 s.op,.string s.mod,.string s.name,.slice a1 s.args.length c1,.slice a2 s.body.length c2,.slice a3 s.other.length c3]/\s.mod.size<=maxLen/\s.name.size<=maxLen/\
 EAt w A a1 s.args.length (zbo s.args)/\EAt w A a2 s.body.length (zbp s.body)/\EAt w A a3 s.other.length (zbp s.other)
def z85 (A:Nat->Prop) (xs:List St) (w:World) (v:Value):Prop:=∃ a cap,v = .slice a xs.length cap/\EAt w A a xs.length (zbp xs)
def zze (s:St) (a1:OA) (c1:Nat) (a2:OA) (c2:Nat) (a3:OA) (c3:Nat):List Value:=[.int .i64 s.op,.string s.mod,.string s.name,.slice a1 s.args.length c1,.slice a2 s.body.length c2,.slice a3 s.other.length c3]
theorem z13 {A:Nat->Prop} {s:St} {w:World} {a1 a2 a3:OA} {c1 c2 c3:Nat} (h1:s.mod.size<=maxLen) (h2:s.name.size<=maxLen) (h3:EAt w A a1 s.args.length (zbo s.args)) (h4:EAt w A a2 s.body.length (zbp s.body)) (h5:EAt w A a3 s.other.length (zbp s.other)):zau w A s.ds (zze s a1 c1 a2 c2 a3 c3):=by
 cases s
 unfold St.ds;exact .cons zpw (.cons (zxa h1) (.cons (zxa h2) (.cons h3.val (.cons h4.val (.cons h5.val .nil)))))
abbrev za1:Obj:=.cells #[.int .i64 0,.string ⟨#[]⟩,.string ⟨#[]⟩,.slice none 0 0,.slice none 0 0,.slice none 0 0] 176 (0,0)
theorem st_end {R cap:Nat} {a:OA} {ts l l':List Tk} {w w1:World} {r:Option (St × List Tk)} {s:St} {a1 a2 a3:OA} {c1 c2 c3:Nat} (h0:Rd R a cap ts w l) (hr:r=some (s,l')) (hk:Keeps R w w1) (hrd:Rd R a cap ts w1 l')
 (hx1:s.mod.size<=maxLen) (hx2:s.name.size<=maxLen) {lo:Nat} (h1:EAt w1 (lo<=·) a1 s.args.length (zbo s.args)) (h2:EAt w1 (lo<=·) a2 s.body.length (zbp s.body)) (h3:EAt w1 (lo<=·) a3 s.other.length (zbp s.other)) (hlo:w.heap.size<lo) :
 zd4 R a cap ts w r (zf7 (w.heap.size<=·)) (.returned (.agg #[.int .i64 s.op,.string s.mod,.string s.name,.slice a1 s.args.length c1,.slice a2 s.body.length c2,.slice a3 s.other.length c3])) (set6 w1 w.heap.size (.int .i64 s.op) (.string s.mod) (.string s.name) (.slice a1 s.args.length c1) (.slice a2 s.body.length c2) (.slice a3 s.other.length c3)):=by
 have hm:zad w1 (lo<=·) (set6 w1 w.heap.size (.int .i64 s.op) (.string s.mod) (.string s.name) (.slice a1 s.args.length c1) (.slice a2 s.body.length c2) (.slice a3 s.other.length c3)) (w.heap.size<=·):=((zad.refl w1 (lo<=·)).set6 (by intro b _ hb;omega) _ _ _ _ _ _).to (by omega);exact ⟨hk.set6 (vaa _) _ _ _ _ _ _,Or.inr ⟨s,l',_,hr,rfl,⟨a1,c1,a2,c2,a3,c3,rfl,hx1,hx2,h1.moves hm,h2.moves hm,h3.moves hm⟩,hrd.set6 h0 (vaa _) _ _ _ _ _ _⟩⟩
theorem zky (R cap:Nat) (a:OA) (ts l:List Tk) (w:World) (h:Rd R a cap ts w l) (op:Int) (mod name:ByteArray) (a1 a2 a3:OA) (n1 n2 n3 c1 c2 c3:Nat) :
 Calls Tryz.prog 284 #[.pointer (some ⟨R,0,none⟩),.agg #[.int .i64 op,.string mod,.string name,.slice a1 n1 c1,.slice a2 n2 c2,.slice a3 n3 c3]] w fun e w'=>Keeps R w w'/\
  ((skB l zhj=false/\e = .panicked zag)\/(skB l zhj=true/\e = .returned (.agg #[.int .i64 op,.string mod,.string name,.slice a1 n1 c1,.slice a2 n2 c2,.slice a3 n3 c3])/\Rd R a cap ts w' l.tail)):=by
 have HR:Hid (Rd R a cap ts w l):=h;have hRw:=h.lt;clear h;go_enter Tryz.func284,Tryz.ntmps284;go_wp2_with fail;refine (zfk R cap _ a ts l zhj _ (by simp) ((HR.out.alloc _).alloc _) (by decide)).mono ?_;rintro e w1 ⟨HK1,⟨hs,rfl⟩ | ⟨hs,rfl,HR1⟩⟩
 . exact ⟨rfl,(((Keeps.refl R w).alloc _).alloc _).trans HK1,Or.inl ⟨hs,rfl⟩⟩
 have hz1:=HK1.size;simp at hz1;have HB1:Hid (w1.heap[w.heap.size]? = some (.cells #[.int .i64 op,.string mod,.string name,.slice a1 n1 c1,.slice a2 n2 c2,.slice a3 n3 c3] 176 (0,0))):=(HK1.block w.heap.size (by simp;omega) (by omega)).trans (zab (heap_newP _ _));have HC1:Hid (w1.heap[w.heap.size+1]? = some za1):=(HK1.block (w.heap.size+1) (by simp) (by omega)).trans (by have e:=heap_newP (w.alloc (.cells #[.int .i64 op,.string mod,.string name,.slice a1 n1 c1,.slice a2 n2 c2,.slice a3 n3 c3] 176)) za1;simpa using e);have HK1':Hid (Keeps R w w1):=(((Keeps.refl R w).alloc _).alloc _).trans HK1;have HR1':Hid (Rd R a cap ts w1 l.tail):=HR1;obtain ⟨f0,f1,f2,f3,f4,f5,f6⟩:=zam HB1.out;obtain ⟨g0,g1,g2,g3,g4,g5,g6⟩:=zam HC1.out;clear HK1 HR1;go_wp2_with fail;refine bodyPost_ret (v:=.agg #[.int .i64 op,.string mod,.string name,.slice a1 n1 c1,.slice a2 n2 c2,.slice a3 n3 c3]) (by simp [results,Tryz.results284,go_sem,g0,g1,g2,g3,g4,g5]) rfl ⟨HK1'.out.set6 (by omega) _ _ _ _ _ _,Or.inr ⟨hs,rfl,HR1'.out.set6 HR.out (by omega) _ _ _ _ _ _⟩⟩
theorem znc {R cap:Nat} {a:OA} {ts l':List Tk} {w w':World} {r:Option (St × List Tk)} {s:St} {a1 a2 a3:OA} {c1 c2 c3:Nat} (hr:r=some (s,l')) (hk:Keeps R w w') (hrd:Rd R a cap ts w' l')
 (hx1:s.mod.size<=maxLen) (hx2:s.name.size<=maxLen) (h1:EAt w' (w.heap.size<=·) a1 s.args.length (zbo s.args)) (h2:EAt w' (w.heap.size<=·) a2 s.body.length (zbp s.body)) (h3:EAt w' (w.heap.size<=·) a3 s.other.length (zbp s.other)) :
 zd4 R a cap ts w r (zf7 (w.heap.size<=·)) (.returned (.agg #[.int .i64 s.op,.string s.mod,.string s.name,.slice a1 s.args.length c1,.slice a2 s.body.length c2,.slice a3 s.other.length c3])) w':=
 ⟨hk,Or.inr ⟨s,l',_,hr,rfl,⟨a1,c1,a2,c2,a3,c3,rfl,hx1,hx2,h1,h2,h3⟩,hrd⟩⟩
theorem z7k (l:List Tk) (t u v:ByteArray):zjg l [t,u,v]=if skB l t then some t else if skB l u then some u else if skB l v then some v else none:=by
 unfold zjg;rw [vcq,vcq,vcq];cases skB l t<;>cases skB l u<;>cases skB l v<;>rfl
theorem z7l (R cap n:Nat) (a:OA) (ts l:List Tk) (t u v:ByteArray) (w:World) (hn:n=w.heap.size) (h:Rd R a cap ts w l) (ht:0<t.size) (hu:0<u.size) (hv:0<v.size) :
 Calls Tryz.prog 195 #[.pointer (some ⟨R,0,none⟩),.slice (some ⟨n,0,none⟩) 3 3] (w.alloc (.cells #[.string t,.string u,.string v] 9)) fun e w'=>Keeps R w w'/\((skB l t=false/\skB l u=false/\skB l v=false/\e = .panicked zag)\/(skB l t=true/\e = .returned (.string t)/\Rd R a cap ts w' l.tail)\/(skB l t=false/\skB l u=true/\e = .returned (.string u)/\Rd R a cap ts w' l.tail)\/(skB l t=false/\skB l u=false/\skB l v=true/\e = .returned (.string v)/\Rd R a cap ts w' l.tail)):=by
 have hlt:=h.lt;subst hn;refine (zjy R cap w.heap.size 3 a ts l [t,u,v] _ (h.alloc _) (by simp) (by omega) (by simp) (fun i hi=>?_) (fun i hi=>?_)).mono ?_
 . obtain rfl | rfl | rfl:i=0\/i=1\/i=2:=by simp at hi;omega
   all_goals simp
 . obtain rfl | rfl | rfl:i=0\/i=1\/i=2:=by simp at hi;omega
   . exact ht
   . exact hu
   . exact hv
 . rintro e w' ⟨hk,hr⟩
   refine ⟨((Keeps.refl R w).alloc _).trans hk,?_⟩;rw [z7k] at hr
   have key:∀ x:ByteArray,((some x).map fun t=>(t,l.tail))=some (x,l.tail):=fun _=>rfl
   cases hs:skB l t<;>cases hs2:skB l u<;>cases hs3:skB l v<;>rw [hs,hs2,hs3] at hr<;>simp only [vcu,if_false,if_true,Option.map_none,Option.map_some] at hr
   . rcases hr with ⟨_,rfl⟩ | ⟨x,l',y,hr,_⟩
     . exact Or.inl ⟨rfl,rfl,rfl,rfl⟩
     . cases hr
   all_goals
    rcases hr with ⟨hr,_⟩ | ⟨x,l',y,hr,rfl,rfl,hR⟩
    . cases hr
    . obtain ⟨rfl,rfl⟩:=vao (vab hr)
      simp [hR]
theorem z5j {R cap:Nat} {a:OA} {ts l l8:List Tk} {w w8 w9:World} {r:Option (St × List Tk)} {x y:Ex} {m n:ByteArray} {g9 c9:Nat} (h0:Rd R a cap ts w l) (hr:r=some (.mk 2 m n [x,y] [] [],l8)) (HK8:Keeps R w w8) (HR8:Rd R a cap ts w8 l8)
 (hm:m.size<=maxLen) (hnn:n.size<=maxLen) (HB9:Below (w.heap.size+2) w8 w9) (HO9:Row (w.heap.size+2) 174 5 w9 (.slice (some ⟨g9,0,none⟩) 2 c9) 2 (x.ds++y.ds)) :
 zd4 R a cap ts w r (zf7 (w.heap.size<=·)) (.returned (.agg #[.int .i64 2,.string m,.string n,.slice (some ⟨g9,0,none⟩) 2 c9,.slice none 0 0,.slice none 0 0])) (set6 (w9.setCell ⟨w.heap.size+1,3,none⟩ (.slice (some ⟨g9,0,none⟩) 2 c9)) w.heap.size (.int .i64 2) (.string m) (.string n) (.slice (some ⟨g9,0,none⟩) 2 c9) (.slice none 0 0) (.slice none 0 0)):=by
 have hw9:Below w.heap.size w8 w9:=HB9.mono (by omega)
 have hd:zbo [x,y]=x.ds++y.ds:=by simp [zbo]
 obtain ⟨a',c',hv,hat⟩:=HO9.slice
 injection hv with hv1 hv2 hv3
 rw [← hv1,← hd] at hat;have hat':=hat.moves ((((zad.refl w9 (w.heap.size+2<=·)).set (p:=⟨w.heap.size+1,3,none⟩) (by intro b _ hb;show b≠w.heap.size+1;omega) (.slice (some ⟨g9,0,none⟩) 2 c9)).set6 (b:=w.heap.size) (by intro b _ hb;omega) (.int .i64 2) (.string m) (.string n) (.slice (some ⟨g9,0,none⟩) 2 c9) (.slice none 0 0) (.slice none 0 0)).to (lo':=w.heap.size) (by omega))
 have hk9:=(((HK8.belowOf hw9).set (p:=⟨w.heap.size+1,3,none⟩) (by show w.heap.size<=w.heap.size+1;omega) (.slice (some ⟨g9,0,none⟩) 2 c9)).set6 (b:=w.heap.size) (vaa _) (.int .i64 2) (.string m) (.string n) (.slice (some ⟨g9,0,none⟩) 2 c9) (.slice none 0 0) (.slice none 0 0))
 have hr9:=((HR8.belowOf h0 hw9).setAbove h0 (p:=⟨w.heap.size+1,3,none⟩) (by show w.heap.size<=w.heap.size+1;omega) (.slice (some ⟨g9,0,none⟩) 2 c9)).set6 h0 (b:=w.heap.size) (vaa _) (.int .i64 2) (.string m) (.string n) (.slice (some ⟨g9,0,none⟩) 2 c9) (.slice none 0 0) (.slice none 0 0);exact znc (s:=.mk 2 m n [x,y] [] []) hr hk9 hr9 hm hnn hat' (Or.inl rfl) (Or.inl rfl)
theorem z5k:Enters Tryz.prog 283:=enters_of Tryz.func283 (by kernel_rfl) rfl
theorem zzf (R cap:Nat) (a:OA) (ts l:List Tk) (w:World) (h:Rd R a cap ts w l) :
 Calls Tryz.prog 285 #[.pointer (some ⟨R,0,none⟩)] w (zd4 R a cap ts w (zbr l) (zf7 (w.heap.size<=·))):=by
 have HR:Hid (Rd R a cap ts w l):=h;have hRw:=h.lt;clear h;go_enter Tryz.func285,Tryz.ntmps285;go_wp2_with fail;refine (zy7 R cap a ts l _ ((HR.out.alloc _).alloc _)).mono ?_;rintro e w1 ⟨HK1,⟨hn,rfl⟩ | ⟨⟨m,n⟩,l1,v,hn,rfl,⟨rfl,hm,hnn⟩,HR1⟩⟩
 . exact ⟨rfl,(((Keeps.refl R w).alloc _).alloc _).trans HK1,Or.inl ⟨by unfold zbr;rw [hn],rfl⟩⟩
 have hz1:=HK1.size;simp at hz1
 have HP1:Hid (zbr l=if skB l1 tEq then (match pX l1.tail with | none=>none | some (x,l2)=>some (.mk 1 m n [x] [] [],l2))
  else if skB l1 tLs then (match pX l1.tail with
   | none=>none
   | some (x,l2)=>if skB l2 tRs then (if skB l2.tail tEq then (match pX l2.tail.tail with | none=>none | some (y,l3)=>some (.mk 2 m n [x,y] [] [],l3)) else none) else none)
  else if skB l1 tLp then (match pAs l1.tail with | none=>none | some (xs,l2)=>some (.mk 3 m n xs [] [],l2))
  else none):=by show zbr l=_;unfold zbr;rw [hn];rfl
 have HK1':Hid (Keeps R w w1):=(((Keeps.refl R w).alloc _).alloc _).trans HK1;have HB1:Hid (w1.heap[w.heap.size]? = some za1):=(HK1.block w.heap.size (by simp;omega) (by omega)).trans (zab (heap_newP _ _));have HC1:Hid (w1.heap[w.heap.size+1]? = some za1):=(HK1.block (w.heap.size+1) (by simp) (by omega)).trans (by have e:=heap_newP (w.alloc za1) za1;simpa using e);obtain ⟨h0,h1,h2,h3,h4,h5,h6⟩:=zam HC1.out;have HR2:Hid (Rd R a cap ts ((w1.setCell ⟨w.heap.size+1,1,none⟩ (.string m)).setCell ⟨w.heap.size+1,2,none⟩ (.string n)) l1):=(HR1.setAbove HR.out (by show _<=w.heap.size+1;omega) _).setAbove HR.out (by show _<=w.heap.size+1;omega) _;have HK2:Hid (Keeps R w ((w1.setCell ⟨w.heap.size+1,1,none⟩ (.string m)).setCell ⟨w.heap.size+1,2,none⟩ (.string n))):=(HK1'.out.set (by show _<=w.heap.size+1;omega) _).set (by show _<=w.heap.size+1;omega) _
 have HB2:Hid (((w1.setCell ⟨w.heap.size+1,1,none⟩ (.string m)).setCell ⟨w.heap.size+1,2,none⟩ (.string n)).heap[w.heap.size]? = some za1):=(heap_set_ne (by show w.heap.size≠w.heap.size+1;omega) _).trans ((heap_set_ne (by show w.heap.size≠w.heap.size+1;omega) _).trans HB1.out);have HC2:Hid (((w1.setCell ⟨w.heap.size+1,1,none⟩ (.string m)).setCell ⟨w.heap.size+1,2,none⟩ (.string n)).heap[w.heap.size+1]? = some (.cells #[.int .i64 0,.string m,.string n,.slice none 0 0,.slice none 0 0,.slice none 0 0] 176 (0,0))):=heap_set (heap_set HC1.out _) _
 have hz2:((w1.setCell ⟨w.heap.size+1,1,none⟩ (.string m)).setCell ⟨w.heap.size+1,2,none⟩ (.string n)).heap.size=w1.heap.size:=by simp only [vaq]
 have hq1:w.heap.size+1<w1.heap.size:=by omega
 clear hn HR1 HK1 HB1 HK1';go_wp2_with fail;generalize (w1.setCell ⟨w.heap.size+1,1,none⟩ (.string m)).setCell ⟨w.heap.size+1,2,none⟩ (.string n)=w2 at *;clear h0 h1 h2 h3 h4 h5 h6 HC1;refine (z7l R cap _ a ts l1 tEq tLs tLp w2 (by omega) HR2.out (by decide) (by decide) (by decide)).mono ?_;rintro e w3 ⟨HK3,⟨s1,s2,s3,rfl⟩ | ⟨s1,rfl,HR3⟩ | ⟨s1,s2,rfl,HR3⟩ | ⟨s1,s2,s3,rfl,HR3⟩⟩
 . exact ⟨rfl,HK2.out.trans HK3,Or.inl ⟨by rw [HP1.out,s1,s2,s3];rfl,rfl⟩⟩
 . have hz3:=HK3.size
   have HB3:Hid (w3.heap[w.heap.size]? = some za1):=(HK3.block w.heap.size (by omega) (by omega)).trans HB2.out;have HC3:Hid (w3.heap[w.heap.size+1]? = some (.cells #[.int .i64 0,.string m,.string n,.slice none 0 0,.slice none 0 0,.slice none 0 0] 176 (0,0))):=(HK3.block (w.heap.size+1) (by omega) (by omega)).trans HC2.out;obtain ⟨h0,h1,h2,h3,h4,h5,h6⟩:=zam HC3.out;have HR4:Hid (Rd R a cap ts (w3.setCell ⟨w.heap.size+1,0,none⟩ (.int .i64 1)) l1.tail):=HR3.setAbove HR.out (by show _<=w.heap.size+1;omega) _;have HK4:Hid (Keeps R w (w3.setCell ⟨w.heap.size+1,0,none⟩ (.int .i64 1))):=(HK2.out.trans HK3).set (by show _<=w.heap.size+1;omega) _;have HB4:Hid ((w3.setCell ⟨w.heap.size+1,0,none⟩ (.int .i64 1)).heap[w.heap.size]? = some za1):=(heap_set_ne (by show w.heap.size≠w.heap.size+1;omega) _).trans HB3.out;have HC4:Hid ((w3.setCell ⟨w.heap.size+1,0,none⟩ (.int .i64 1)).heap[w.heap.size+1]? = some (.cells #[.int .i64 1,.string m,.string n,.slice none 0 0,.slice none 0 0,.slice none 0 0] 176 (0,0))):=heap_set HC3.out _
   have hz4:(w3.setCell ⟨w.heap.size+1,0,none⟩ (.int .i64 1)).heap.size=w3.heap.size:=by simp only [vaq]
   clear HR3 HK3 HB3 HR2 HK2 HB2 HC2;go_wp2_with fail;generalize w3.setCell ⟨w.heap.size+1,0,none⟩ (.int .i64 1)=w4 at *;clear h0 h1 h2 h3 h4 h5 h6 HC3;refine (zet R cap a ts l1.tail w4 HR4.out).mono ?_;rintro e w5 ⟨HK5,⟨hn,rfl⟩ | ⟨x,l5,v,hn,rfl,⟨a5,c5,rfl,hx1,hx2,hx3⟩,HR5⟩⟩
   . exact ⟨rfl,HK4.out.trans HK5,Or.inl ⟨by rw [HP1.out,if_pos s1,hn],rfl⟩⟩
   have hz5:=HK5.size
   have HP:Hid (zbr l=some (.mk 1 m n [x] [] [],l5)):=by show zbr l=_;rw [HP1.out,if_pos s1,hn]
   have HB5:Hid (w5.heap[w.heap.size]? = some za1):=(HK5.block w.heap.size (by omega) (by omega)).trans HB4.out;have HC5:Hid (w5.heap[w.heap.size+1]? = some (.cells #[.int .i64 1,.string m,.string n,.slice none 0 0,.slice none 0 0,.slice none 0 0] 176 (0,0))):=(HK5.block (w.heap.size+1) (by omega) (by omega)).trans HC4.out
   have HF:Hid (zd4 R a cap ts w (zbr l) (zf7 (w.heap.size<=·)) (.returned (.agg #[.int .i64 1,.string m,.string n,.slice (some ⟨w5.heap.size,0,none⟩) 1 1,.slice none 0 0,.slice none 0 0])) ((set6 (w5.setCell ⟨w.heap.size+1,3,none⟩ (.slice (some ⟨w5.heap.size,0,none⟩) 1 1)) w.heap.size (.int .i64 1) (.string m) (.string n) (.slice (some ⟨w5.heap.size,0,none⟩) 1 1) (.slice none 0 0) (.slice none 0 0)).alloc (.cells #[.int .i64 x.op,.int .i64 x.n,.string x.mod,.string x.name,.slice a5 x.args.length c5] 174))):=by
    refine znc (s:=.mk 1 m n [x] [] []) HP.out ((((HK4.out.trans HK5).set (by show _<=w.heap.size+1;omega) _).set6 (vaa _) _ _ _ _ _ _).alloc _) (((HR5.setAbove HR.out (by show _<=w.heap.size+1;omega) _).set6 HR.out (vaa _) _ _ _ _ _ _).alloc _) hm hnn ?_ (Or.inl rfl) (Or.inl rfl);refine zkx (t:=174) (cap:=c5) hx1 hx2 hx3 (((((zad.refl w5 _).set (by intro b _ hb;show b≠w.heap.size+1;omega) _).set6 (b:=w.heap.size) (by intro b _ hb;omega) _ _ _ _ _ _).alloc _).to (by omega)) ?_ (by show w.heap.size<=w5.heap.size;omega);have e:=heap_newP (set6 (w5.setCell ⟨w.heap.size+1,3,none⟩ (.slice (some ⟨w5.heap.size,0,none⟩) 1 1)) w.heap.size (.int .i64 1) (.string m) (.string n) (.slice (some ⟨w5.heap.size,0,none⟩) 1 1) (.slice none 0 0) (.slice none 0 0)) (.cells #[.int .i64 x.op,.int .i64 x.n,.string x.mod,.string x.name,.slice a5 x.args.length c5] 174)
    simp only [vaq] at e;exact e
   obtain ⟨h0,h1,h2,h3,h4,h5,h6⟩:=zam HB5.out;obtain ⟨g0,g1,g2,g3,g4,g5,g6⟩:=zam HC5.out
   have hq5:w.heap.size+1<w5.heap.size:=by omega
   have hq6:w.heap.size<w5.heap.size:=by omega
   clear hn HK5 HR5 hx1 hx2 hx3 HB4 HC4 HR4 HK4;go_wp2_with fail;refine bodyPost_ret (v:=.agg #[.int .i64 1,.string m,.string n,.slice (some ⟨w5.heap.size,0,none⟩) 1 1,.slice none 0 0,.slice none 0 0]) (by simp [results,Tryz.results285,go_sem,h0,h1,h2,h3,h4,h5,hq6]) rfl HF.out
 . have hz3:=HK3.size
   have HB3:Hid (w3.heap[w.heap.size]? = some za1):=(HK3.block w.heap.size (by omega) (by omega)).trans HB2.out;have HC3:Hid (w3.heap[w.heap.size+1]? = some (.cells #[.int .i64 0,.string m,.string n,.slice none 0 0,.slice none 0 0,.slice none 0 0] 176 (0,0))):=(HK3.block (w.heap.size+1) (by omega) (by omega)).trans HC2.out;obtain ⟨h0,h1,h2,h3,h4,h5,h6⟩:=zam HC3.out;have HR4:Hid (Rd R a cap ts (w3.setCell ⟨w.heap.size+1,0,none⟩ (.int .i64 2)) l1.tail):=HR3.setAbove HR.out (by show _<=w.heap.size+1;omega) _;have HK4:Hid (Keeps R w (w3.setCell ⟨w.heap.size+1,0,none⟩ (.int .i64 2))):=(HK2.out.trans HK3).set (by show _<=w.heap.size+1;omega) _;have HB4:Hid ((w3.setCell ⟨w.heap.size+1,0,none⟩ (.int .i64 2)).heap[w.heap.size]? = some za1):=(heap_set_ne (by show w.heap.size≠w.heap.size+1;omega) _).trans HB3.out;have HC4:Hid ((w3.setCell ⟨w.heap.size+1,0,none⟩ (.int .i64 2)).heap[w.heap.size+1]? = some (.cells #[.int .i64 2,.string m,.string n,.slice none 0 0,.slice none 0 0,.slice none 0 0] 176 (0,0))):=heap_set HC3.out _
   have hz4:(w3.setCell ⟨w.heap.size+1,0,none⟩ (.int .i64 2)).heap.size=w3.heap.size:=by simp only [vaq]
   clear HR3 HK3 HB3 HR2 HK2 HB2 HC2;go_wp2_with fail;generalize w3.setCell ⟨w.heap.size+1,0,none⟩ (.int .i64 2)=w4 at *;clear h0 h1 h2 h3 h4 h5 h6 HC3;refine (zet R cap a ts l1.tail w4 HR4.out).mono ?_;rintro e w5 ⟨HK5,⟨hn,rfl⟩ | ⟨x,l5,v,hn,rfl,⟨a5,c5,rfl,hx1,hx2,hx3⟩,HR5⟩⟩
   . exact ⟨rfl,HK4.out.trans HK5,Or.inl ⟨by rw [HP1.out,if_neg (by simp [s1]),if_pos s2,hn],rfl⟩⟩
   have hz5:=HK5.size
   have HP5:Hid (zbr l=if skB l5 tRs then (if skB l5.tail tEq then (match pX l5.tail.tail with | none=>none | some (y,l3)=>some (.mk 2 m n [x,y] [] [],l3)) else none) else none):=by show zbr l=_;rw [HP1.out,if_neg (by simp [s1]),if_pos s2,hn]
   have HB5:Hid (w5.heap[w.heap.size]? = some za1):=(HK5.block w.heap.size (by omega) (by omega)).trans HB4.out;have HC5:Hid (w5.heap[w.heap.size+1]? = some (.cells #[.int .i64 2,.string m,.string n,.slice none 0 0,.slice none 0 0,.slice none 0 0] 176 (0,0))):=(HK5.block (w.heap.size+1) (by omega) (by omega)).trans HC4.out;have HK5':Hid (Keeps R w w5):=HK4.out.trans HK5;have HR5':Hid (Rd R a cap ts w5 l5):=HR5;have HX5:Hid (zau w5 (w4.heap.size<=·) x.ds (zfl x a5 c5)):=zfm hx1 hx2 hx3;obtain ⟨h0,h1,h2,h3,h4,h5,h6⟩:=zam HC5.out
   have hq5:w.heap.size+1<w5.heap.size:=by omega
   clear hn HK5 HR5 hx1 hx2 hx3 HB4 HC4 HR4 HK4 HP1;go_wp2_with fail;refine (zfk R cap _ a ts l5 tRs _ (by simp) ((HR5'.out.setAbove HR.out (by show _<=w.heap.size+1;omega) _).alloc _) (by decide)).mono ?_;rintro e w6 ⟨HK6,⟨t6,rfl⟩ | ⟨t6,rfl,HR6⟩⟩
   . exact ⟨rfl,((HK5'.out.set (by show _<=w.heap.size+1;omega) _).alloc _).trans HK6,Or.inl ⟨by rw [HP5.out,t6];rfl,rfl⟩⟩
   have hz6:=HK6.size;simp at hz6
   have HO6:Hid (Row (w.heap.size+2) 174 5 w6 (.slice (some ⟨w5.heap.size,0,none⟩) 1 1) 1 x.ds):=by
    have e:=Row.first (base:=w.heap.size+2) (e:=174) (size:=5) (w:=w5.setCell ⟨w.heap.size+1,3,none⟩ (.slice (some ⟨w5.heap.size,0,none⟩) 1 1)) (A:=(w4.heap.size<=·)) (ds:=x.ds) (cs:=#[.int .i64 x.op,.int .i64 x.n,.string x.mod,.string x.name,.slice a5 x.args.length c5])
     (HX5.out.moves ((zad.refl w5 _).set (by intro b _ hb;show b≠w.heap.size+1;omega) _)) (fun b _ hb=>by omega) (by simp;omega) rfl
    simp only [vaq] at e;exact Row.keeps e HK6 (by omega)
   have HB6:Hid (w6.heap[w.heap.size]? = some za1):=(HK6.block w.heap.size (by simp;omega) (by omega)).trans (zab ((heap_set_ne (by show w.heap.size≠w.heap.size+1;omega) _).trans HB5.out));have HC6:Hid (w6.heap[w.heap.size+1]? = some (.cells #[.int .i64 2,.string m,.string n,.slice (some ⟨w5.heap.size,0,none⟩) 1 1,.slice none 0 0,.slice none 0 0] 176 (0,0))):=(HK6.block (w.heap.size+1) (by simp;omega) (by omega)).trans (zab (heap_set HC5.out _));have HK6':Hid (Keeps R w w6):=((HK5'.out.set (by show _<=w.heap.size+1;omega) _).alloc _).trans HK6;have HR6':Hid (Rd R a cap ts w6 l5.tail):=HR6;clear HR6 HK6 HR5' HK5' HX5 HB5 HC5 h0 h1 h2 h3 h4 h5 h6;go_wp2_with fail;refine (zfk R cap _ a ts l5.tail tEq _ (by simp) HR6'.out (by decide)).mono ?_;rintro e w7 ⟨HK7,⟨t7,rfl⟩ | ⟨t7,rfl,HR7⟩⟩
   . exact ⟨rfl,HK6'.out.trans HK7,Or.inl ⟨by rw [HP5.out,t6,t7];rfl,rfl⟩⟩
   have hz7:=HK7.size;have HO7:Hid (Row (w.heap.size+2) 174 5 w7 (.slice (some ⟨w5.heap.size,0,none⟩) 1 1) 1 x.ds):=HO6.out.keeps HK7 (by omega);have HB7:Hid (w7.heap[w.heap.size]? = some za1):=(HK7.block w.heap.size (by omega) (by omega)).trans HB6.out;have HC7:Hid (w7.heap[w.heap.size+1]? = some (.cells #[.int .i64 2,.string m,.string n,.slice (some ⟨w5.heap.size,0,none⟩) 1 1,.slice none 0 0,.slice none 0 0] 176 (0,0))):=(HK7.block (w.heap.size+1) (by omega) (by omega)).trans HC6.out;have HK7':Hid (Keeps R w w7):=HK6'.out.trans HK7;have HR7':Hid (Rd R a cap ts w7 l5.tail.tail):=HR7
   have HP7:Hid (zbr l=match pX l5.tail.tail with | none=>none | some (y,l3)=>some (.mk 2 m n [x,y] [] [],l3)):=by show zbr l=_;rw [HP5.out,t6,t7];rfl
   obtain ⟨h0,h1,h2,h3,h4,h5,h6⟩:=zam HC7.out;clear HR7 HK7 HR6' HK6' HB6 HC6 HO6 HP5 t6 t7
   cases hx:pX l5.tail.tail with
   | none=>
     have HE:Hid (∀ w',Rd R a cap ts w' l5.tail.tail->Calls Tryz.prog 283 #[.pointer (some ⟨R,0,none⟩)] w' fun e w''=>e = .panicked zag/\Keeps R w' w''):=fun w' h'=>by
      refine (zet R cap a ts _ w' h').mono ?_;rintro e w'' ⟨hk,⟨_,rfl⟩ | ⟨_,_,_,h,_⟩⟩
      . exact ⟨rfl,hk⟩
      . rw [hx] at h;cases h
     have HP:Hid (zbr l=none):=by show zbr l=_;rw [HP7.out,hx]
     clear hx HP7;go_wp2_with fail;refine wp_region_any (by kernel_rfl) ?_
     change wpAny _ _ _ _ _ _ _ (World.drew _)
     refine wpAny_take (i:=2) (v:=.pointer (some ⟨R,0,none⟩)) rfl (by kernel_rfl) (by kernel_rfl) (by kernel_rfl) (fun c a w h=>h) (Or.inl ⟨by rfl,fun w=>by go_simp⟩) ?_;refine wpAny_take (i:=0) (v:=.pointer (some ⟨w.heap.size+1,3,none⟩)) rfl (by kernel_rfl) (by kernel_rfl) (by kernel_rfl) (fun c a w h=>h) (Or.inl ⟨by rfl,fun w=>by go_simp⟩) ?_;refine wpAny_ready (rs:=[1,3]) (by kernel_rfl) (by simp) ?_;refine veh rfl (fun K hK=>?_) (veh rfl (fun K hK=>?_) vej)
     . go_simp
       refine hK _ _ ?_;clear hK K;refine wpAny_ready (rs:=[3]) (by kernel_rfl) (by simp) ?_;refine veh rfl (fun K hK=>?_) vej;refine zbf (by rfl) 283 _ _ (by rfl) z5k _ (by rfl) zag (HE.out _ HR7'.out.drew) ?_;intro w8 hk8;exact ⟨rfl,HK7'.out.drew.trans hk8,Or.inl ⟨HP.out,rfl⟩⟩
     . refine zbf (by rfl) 283 _ _ (by rfl) z5k _ (by rfl) zag (HE.out _ HR7'.out.drew) ?_
       intro w8 hk8;exact ⟨rfl,HK7'.out.drew.trans hk8,Or.inl ⟨HP.out,rfl⟩⟩
   | some r=>
     obtain ⟨y,l8⟩:=r
     have HE:Hid (∀ w',Rd R a cap ts w' l5.tail.tail->Calls Tryz.prog 283 #[.pointer (some ⟨R,0,none⟩)] w' fun e w''=>∃ u,e = .returned u/\(Keeps R w' w''/\zgs (w'.heap.size<=·) y w'' u/\Rd R a cap ts w'' l8)):=fun w' h'=>by
      refine (zet R cap a ts _ w' h').mono ?_;rintro e w'' ⟨hk,⟨h,_⟩ | ⟨y',l',u,h,rfl,hr,hd⟩⟩
      . rw [hx] at h;cases h
      . rw [hx] at h
        obtain ⟨rfl,rfl⟩:=vao (vab h);exact ⟨u,rfl,hk,hr,hd⟩
     have HP:Hid (zbr l=some (.mk 2 m n [x,y] [] [],l8)):=by show zbr l=_;rw [HP7.out,hx]
     clear hx HP7;go_wp2_with fail
     go_region_law (first
      | (refine zb9 (by rfl) 283 _ _ (by rfl) z5k _ (by rfl) (HE.out _ HR7'.out.drew) ?_
         rintro u8 w8 ⟨HK8,⟨a8,c8,rfl,hy1,hy2,hy3⟩,HR8⟩;have hz8:w7.heap.size<=w8.heap.size:=HK8.size
         have hq8:w.heap.size+1<w8.heap.size:=by omega
         have HC8:Hid (w8.heap[w.heap.size+1]? = some (.cells #[.int .i64 2,.string m,.string n,.slice (some ⟨w5.heap.size,0,none⟩) 1 1,.slice none 0 0,.slice none 0 0] 176 (0,0))):=(HK8.block (w.heap.size+1) (show w.heap.size+1<w7.heap.size by omega) (by omega)).trans HC7.out;have HB8:Hid (w8.heap[w.heap.size]? = some za1):=(HK8.block w.heap.size (show w.heap.size<w7.heap.size by omega) (by omega)).trans HB7.out;have hc8:w8.cell? ⟨w.heap.size+1,3,none⟩=some (.slice (some ⟨w5.heap.size,0,none⟩) 1 1):=(HK8.cell (show w.heap.size+1<w7.heap.size by omega) (by omega)).trans h3
         have HO8:Hid (Row (w.heap.size+2) 174 5 w8 (.slice (some ⟨w5.heap.size,0,none⟩) 1 1) 1 x.ds):=(HO7.out.keeps (Keeps.refl R w7).drew (by omega)).keeps HK8 (by omega))
      | (refine zbj (by rfl) _ _ 172 (by rfl) (w.heap.size+2) 174 _ 5 72 Tryz.underlying172 Tryz.infoP80 rfl (by decide) w8 _ 1 x.ds y.ds (by rfl) HO8.out _ _ rfl (by rfl) rfl (w7.heap.size<=·) (zfm hy1 hy2 hy3) (fun b _ hb=>⟨by omega,fun h=>by have h':w5.heap.size=b:=vab h;omega⟩) (by omega) (by decide) (by omega) ?_
         intro g9 c9 w9 HO9 HB9 hz9;have HC9:Hid (w9.heap[w.heap.size+1]? = some (.cells #[.int .i64 2,.string m,.string n,.slice (some ⟨w5.heap.size,0,none⟩) 1 1,.slice none 0 0,.slice none 0 0] 176 (0,0))):=(HB9.block (w.heap.size+1) (by omega)).trans HC8.out;have HD9:Hid (w9.heap[w.heap.size]? = some za1):=(HB9.block w.heap.size (by omega)).trans HB8.out;obtain ⟨k0,k1,k2,k3,k4,k5,k6⟩:=zam HC9.out;obtain ⟨m0,m1,m2,m3,m4,m5,m6⟩:=zam HD9.out
         have hne9:w.heap.size≠w.heap.size+1:=by omega
         have HF:Hid (zd4 R a cap ts w (zbr l) (zf7 (w.heap.size<=·)) (.returned (.agg #[.int .i64 2,.string m,.string n,.slice (some ⟨g9,0,none⟩) 2 c9,.slice none 0 0,.slice none 0 0])) (set6 (w9.setCell ⟨w.heap.size+1,3,none⟩ (.slice (some ⟨g9,0,none⟩) 2 c9)) w.heap.size (.int .i64 2) (.string m) (.string n) (.slice (some ⟨g9,0,none⟩) 2 c9) (.slice none 0 0) (.slice none 0 0))):=z5j HR.out HP.out (HK7'.out.drew.trans HK8) HR8 hm hnn HB9 HO9))
     all_goals
      go_wp2_with fail;refine bodyPost_ret (v:=.agg #[.int .i64 2,.string m,.string n,.slice (some ⟨g9,0,none⟩) 2 c9,.slice none 0 0,.slice none 0 0]) (by simp [results,Tryz.results285,go_sem,m0,m1,m2,m3,m4,m5]) rfl HF.out
 . have hz3:=HK3.size
   have HB3:Hid (w3.heap[w.heap.size]? = some za1):=(HK3.block w.heap.size (by omega) (by omega)).trans HB2.out;have HC3:Hid (w3.heap[w.heap.size+1]? = some (.cells #[.int .i64 0,.string m,.string n,.slice none 0 0,.slice none 0 0,.slice none 0 0] 176 (0,0))):=(HK3.block (w.heap.size+1) (by omega) (by omega)).trans HC2.out;obtain ⟨h0,h1,h2,h3,h4,h5,h6⟩:=zam HC3.out;have HR4:Hid (Rd R a cap ts (w3.setCell ⟨w.heap.size+1,0,none⟩ (.int .i64 3)) l1.tail):=HR3.setAbove HR.out (by show _<=w.heap.size+1;omega) _;have HK4:Hid (Keeps R w (w3.setCell ⟨w.heap.size+1,0,none⟩ (.int .i64 3))):=(HK2.out.trans HK3).set (by show _<=w.heap.size+1;omega) _;have HB4:Hid ((w3.setCell ⟨w.heap.size+1,0,none⟩ (.int .i64 3)).heap[w.heap.size]? = some za1):=(heap_set_ne (by show w.heap.size≠w.heap.size+1;omega) _).trans HB3.out;have HC4:Hid ((w3.setCell ⟨w.heap.size+1,0,none⟩ (.int .i64 3)).heap[w.heap.size+1]? = some (.cells #[.int .i64 3,.string m,.string n,.slice none 0 0,.slice none 0 0,.slice none 0 0] 176 (0,0))):=heap_set HC3.out _
   have hz4:(w3.setCell ⟨w.heap.size+1,0,none⟩ (.int .i64 3)).heap.size=w3.heap.size:=by simp only [vaq]
   clear HR3 HK3 HB3 HR2 HK2 HB2 HC2;go_wp2_with fail;generalize w3.setCell ⟨w.heap.size+1,0,none⟩ (.int .i64 3)=w4 at *;clear h0 h1 h2 h3 h4 h5 h6 HC3;refine (z12 R cap a ts l1.tail w4 HR4.out).mono ?_;rintro e w5 ⟨HK5,⟨hn,rfl⟩ | ⟨xs,l5,v,hn,rfl,⟨a5,c5,rfl,hx3⟩,HR5⟩⟩
   . exact ⟨rfl,HK4.out.trans HK5,Or.inl ⟨by rw [HP1.out,if_neg (by simp [s1]),if_neg (by simp [s2]),if_pos s3,hn],rfl⟩⟩
   have hz5:=HK5.size
   have HP:Hid (zbr l=some (.mk 3 m n xs [] [],l5)):=by show zbr l=_;rw [HP1.out,if_neg (by simp [s1]),if_neg (by simp [s2]),if_pos s3,hn]
   have HB5:Hid (w5.heap[w.heap.size]? = some za1):=(HK5.block w.heap.size (by omega) (by omega)).trans HB4.out;have HC5:Hid (w5.heap[w.heap.size+1]? = some (.cells #[.int .i64 3,.string m,.string n,.slice none 0 0,.slice none 0 0,.slice none 0 0] 176 (0,0))):=(HK5.block (w.heap.size+1) (by omega) (by omega)).trans HC4.out
   have HF:Hid (zd4 R a cap ts w (zbr l) (zf7 (w.heap.size<=·)) (.returned (.agg #[.int .i64 3,.string m,.string n,.slice a5 xs.length c5,.slice none 0 0,.slice none 0 0])) (set6 (w5.setCell ⟨w.heap.size+1,3,none⟩ (.slice a5 xs.length c5)) w.heap.size (.int .i64 3) (.string m) (.string n) (.slice a5 xs.length c5) (.slice none 0 0) (.slice none 0 0))):=by
    refine znc (s:=.mk 3 m n xs [] []) HP.out (((HK4.out.trans HK5).set (by show _<=w.heap.size+1;omega) _).set6 (vaa _) _ _ _ _ _ _) ((HR5.setAbove HR.out (by show _<=w.heap.size+1;omega) _).set6 HR.out (vaa _) _ _ _ _ _ _) hm hnn ?_ (Or.inl rfl) (Or.inl rfl);exact hx3.moves ((((zad.refl w5 _).set (by intro b _ hb;show b≠w.heap.size+1;omega) _).set6 (b:=w.heap.size) (by intro b _ hb;omega) _ _ _ _ _ _).to (by omega))
   obtain ⟨h0,h1,h2,h3,h4,h5,h6⟩:=zam HB5.out;obtain ⟨g0,g1,g2,g3,g4,g5,g6⟩:=zam HC5.out;clear hn HK5 HR5 hx3 HB4 HC4 HR4 HK4;go_wp2_with fail;refine bodyPost_ret (v:=.agg #[.int .i64 3,.string m,.string n,.slice a5 xs.length c5,.slice none 0 0,.slice none 0 0]) (by simp [results,Tryz.results285,go_sem,h0,h1,h2,h3,h4,h5]) rfl HF.out
set_option maxHeartbeats 1600000
theorem zzg {l l':List Tk} {s:St} (h:zbr l=some (s,l')):l'.length<l.length:=by
 unfold zbr at h
 split at h
 . cases h
 rename_i m n l1 h1
 have:=zru h1
 split at h
 . rename_i hs
   have:=zah (by decide) hs
   split at h
   . cases h
   rename_i x l2 h2
   have:=zn4 h2;obtain ⟨_,rfl⟩:=vao (vab h);omega
 split at h
 . rename_i hs
   have:=zah (by decide) hs
   split at h
   . cases h
   rename_i x l2 h2
   have:=zn4 h2
   split at h
   . rename_i hs2
     have:=zah (by decide) hs2
     split at h
     . rename_i hs3
       have:=zah (by decide) hs3
       split at h
       . cases h
       rename_i y l3 h3
       have:=zn4 h3;obtain ⟨_,rfl⟩:=vao (vab h);omega
     . cases h
   . cases h
 split at h
 . rename_i hs
   have:=zah (by decide) hs
   split at h
   . cases h
   rename_i x l2 h2
   have:=z60 h2;obtain ⟨_,rfl⟩:=vao (vab h);omega
 . cases h
theorem zkz {r:Option (St × List Tk)} {l':List Tk} {s:St} {n:Nat} (h:zdt r=some (s,l')) (hr:∀ s l,r=some (s,l)->l.length<n):l'.length<n:=by
 unfold zdt at h
 split at h
 . cases h
 . rename_i s1 l1
   have:=hr s1 l1 rfl
   split at h
   . rename_i hs
     have:=zah (by decide) hs;obtain ⟨_,rfl⟩:=vao (vab h);omega
   . cases h
def zco (f:Nat) (l:List Tk):Option (St × List Tk):=
 match pX l with
 | none=>none
 | some (x,l1)=>match zbt f l1 with
   | none=>none
   | some (b,l2)=>if skB l2 zrt then (match zbt f l2.tail with | none=>none | some (o,l3)=>if o.length=0 then none else some (.mk 4 ⟨#[]⟩ ⟨#[]⟩ [x] b o,l3))
     else some (.mk 4 ⟨#[]⟩ ⟨#[]⟩ [x] b [],l2)
theorem zur {f:Nat} {l:List Tk} (h:skB l tIf=true):zce (f+1) l=zco f l.tail:=by
 unfold zce;rw [if_pos h];rfl
theorem zha {f:Nat} {l:List Tk} (h:skB l tIf=false) (h1:skB l zgw=true):zce (f+1) l=(match pX l.tail with
 | none=>none
 | some (x,l1)=>match zbt f l1 with | none=>none | some (b,l2)=>some (.mk 5 ⟨#[]⟩ ⟨#[]⟩ [x] b [],l2)):=by
 unfold zce;rw [if_neg (by simp [h]),if_pos h1];rfl
theorem zf8 {f:Nat} {l:List Tk} (h:skB l tIf=false) (h1:skB l zgw=false) (h2:skB l zfh=true):zce (f+1) l=zdt (match pX l.tail with | none=>none | some (x,l1)=>some (.mk 6 ⟨#[]⟩ ⟨#[]⟩ [x] [] [],l1)):=by
 unfold zce;rw [if_neg (by simp [h]),if_neg (by simp [h1]),if_pos h2];rfl
theorem zk0 {f:Nat} {l:List Tk} (h:skB l tIf=false) (h1:skB l zgw=false) (h2:skB l zfh=false) (h3:skB l z3s=true):zce (f+1) l=zdt (match pX l.tail with | none=>none | some (x,l1)=>some (.mk 7 ⟨#[]⟩ ⟨#[]⟩ [x] [] [],l1)):=by
 unfold zce;rw [if_neg (by simp [h]),if_neg (by simp [h1]),if_neg (by simp [h2]),if_pos h3];rfl
theorem zhb {f:Nat} {l:List Tk} (h:skB l tIf=false) (h1:skB l zgw=false) (h2:skB l zfh=false) (h3:skB l z3s=false):zce (f+1) l=zdt (zbr l):=by
 unfold zce;rw [if_neg (by simp [h]),if_neg (by simp [h1]),if_neg (by simp [h2]),if_neg (by simp [h3])]
mutual
theorem zou:∀ (f:Nat) (l l':List Tk) (s:St),zce f l=some (s,l')->l'.length<l.length
 | 0,_,_,_,h=>by simp [zce] at h
 | f + 1,l,l',s,h=>by
   unfold zce at h
   split at h
   . rename_i hs
     have:=zah (by decide) hs
     split at h
     . cases h
     rename_i x l1 h1
     have:=zn4 h1
     split at h
     . cases h
     rename_i b l2 h2
     have:=zf9 f _ _ _ h2
     split at h
     . rename_i hs2
       have:=zah (by decide) hs2
       split at h
       . cases h
       rename_i o l3 h3
       have:=zf9 f _ _ _ h3
       split at h
       . cases h
       . obtain ⟨_,rfl⟩:=vao (vab h)
         omega
     . obtain ⟨_,rfl⟩:=vao (vab h)
       omega
   split at h
   . rename_i hs
     have:=zah (by decide) hs
     split at h
     . cases h
     rename_i x l1 h1
     have:=zn4 h1
     split at h
     . cases h
     rename_i b l2 h2
     have:=zf9 f _ _ _ h2;obtain ⟨_,rfl⟩:=vao (vab h);omega
   split at h
   . rename_i hs
     have:=zah (by decide) hs;refine zkz h ?_;intro s l2 h2
     split at h2
     . cases h2
     rename_i x l1 h1
     have:=zn4 h1;obtain ⟨_,rfl⟩:=vao (vab h2);omega
   split at h
   . rename_i hs
     have:=zah (by decide) hs;refine zkz h ?_;intro s l2 h2
     split at h2
     . cases h2
     rename_i x l1 h1
     have:=zn4 h1;obtain ⟨_,rfl⟩:=vao (vab h2);omega
   . exact zkz h fun s l2 h2=>zzg h2
theorem zf9:∀ (f:Nat) (l l':List Tk) (b:List St),zbt f l=some (b,l')->l'.length<l.length
 | 0,_,_,_,h=>by simp [zbt] at h
 | f + 1,l,l',s,h=>by
   unfold zbt at h
   split at h
   . rename_i hs
     have:=zah (by decide) hs;have:=zqu f _ _ _ _ h;omega
   . cases h
theorem zqu:∀ (f:Nat) (acc:List St) (l l':List Tk) (b:List St),zeh f acc l=some (b,l')->l'.length<l.length
 | 0,_,_,_,_,h=>by simp [zeh] at h
 | f + 1,acc,l,l',b,h=>by
   unfold zeh at h
   split at h
   . rename_i hs
     obtain ⟨_,rfl⟩:=vao (vab h);exact zah (by decide) hs
   split at h
   . cases h
   . rename_i s l1 h1
     have:=zou f _ _ _ h1;have:=zqu f _ _ _ _ h;omega
end
structure StC (R cap:Nat) (a:OA) (ts:List Tk) (f:Nat):Prop where
 stmt:∀ (l:List Tk) (w:World),Rd R a cap ts w l->3*l.length+1<=f->Calls Tryz.prog 254 #[.pointer (some ⟨R,0,none⟩)] w (zd4 R a cap ts w (zce f l) (zf7 (w.heap.size<=·)))
 block:∀ (l:List Tk) (w:World),Rd R a cap ts w l->3*l.length+1<=f->Calls Tryz.prog 201 #[.pointer (some ⟨R,0,none⟩)] w (zd4 R a cap ts w (zbt f l) (z85 (w.heap.size<=·)))
theorem zv7 (R cap:Nat) (a:OA) (ts:List Tk) (f:Nat) (IH:∀ g,g<=f->StC R cap a ts g) (l:List Tk) (w:World) (h:Rd R a cap ts w l) (hf:3*l.length+1<=f+1) :
 Calls Tryz.prog 201 #[.pointer (some ⟨R,0,none⟩)] w (zd4 R a cap ts w (zbt (f+1) l) (z85 (w.heap.size<=·))):=by
 have HI:Hid (∀ g,g<=f->StC R cap a ts g):=IH;have HR:Hid (Rd R a cap ts w l):=h;have hRw:=h.lt
 have hlts:l.length<=4096:=by
  obtain ⟨k,_,rfl,_⟩:=h.idx;have:=h.len
  rw [vbv];omega
 clear IH h;go_enter Tryz.func201,Tryz.ntmps201;go_wp2_with fail;refine (zfk R cap _ a ts l tLb _ rfl HR.out (by decide)).mono ?_;rintro e w1 ⟨HK1,⟨hs,rfl⟩ | ⟨hs,rfl,HR1⟩⟩
 . exact ⟨rfl,HK1,Or.inl ⟨by unfold zbt;rw [if_neg (by simp [hs])],rfl⟩⟩
 have hl1:=zah (by decide) hs
 have HP:Hid (zbt (f+1) l=zeh f [] l.tail):=by show zbt (f+1) l=_;unfold zbt;rw [if_pos hs]
 have HR1':Hid (Rd R a cap ts w1 l.tail):=HR1;have HK1':Hid (Keeps R w w1):=HK1;have hz1:=HK1.size;clear HR1 HK1 hs;go_wp2_with fail
 go_loopw [3] (fun v wr=>∃ (g:Nat) (acc:List St) (l':List Tk),g<=f/\zbt (f+1) l=zeh g acc l'/\3*l'.length+2<=g/\acc.length+l'.length<=l.length/\Row w.heap.size 176 6 wr v acc.length (zbp acc)/\Rd R a cap ts wr l'/\Keeps R w wr) (fun _ wr=>zhv R ts.length wr)
 case atStart=>exact ⟨f,[],l.tail,vaa _,HP.out,by omega,by simp,Row.nil _ _ _ _,HR1'.out,HK1'.out⟩
 case round=>
  obtain ⟨g,acc,l',hg,hpm,hlen,hacc,hrow,hrd,hke⟩:=hrel;have HG:Hid (zbt (f+1) l=zeh g acc l'):=hpm;have HO:Hid (Row w.heap.size 176 6 wr u3 acc.length (zbp acc)):=hrow;have HD:Hid (Rd R a cap ts wr l'):=hrd;have HE:Hid (Keeps R w wr):=hke;have hzr:=hke.size
  obtain ⟨g,rfl⟩:∃ g',g=g'+1:=⟨g - 1,by omega⟩
  clear hpm hrow hrd hke HP;go_wp2_with fail
  by_cases hs:skB l' tRb=true
  . have HP:Hid (zbt (f+1) l=some (acc,l'.tail)):=by show zbt (f+1) l=_;rw [HG.out];unfold zeh;rw [if_pos hs]
    refine (zbl R cap a ts l' tRb wr (by decide) HD.out hs).mono ?_;rintro e w3 ⟨rfl,HR3,HK3⟩;have HO3:Hid (Row w.heap.size 176 6 w3 u3 acc.length (zbp acc)):=HO.out.keeps HK3 hRw;go_wp2_with fail;go_ret;exact ⟨HE.out.trans HK3,Or.inr ⟨acc,l'.tail,_,HP.out,rfl,HO3.out.slice,HR3⟩⟩
  refine (zb2 R cap a ts l' tRb wr HD.out (by simpa using hs)).mono ?_;rintro e w3 ⟨rfl,HR3,HK3⟩;have hz3:=HK3.size;go_wp2_with fail;refine ((HI.out g (by omega)).stmt l' w3 HR3 (by omega)).mono ?_;rintro e w4 ⟨HK4,⟨hn,rfl⟩ | ⟨y,l4,v,hn,rfl,⟨a1,c1,a2,c2,a3,c3,rfl,hx1,hx2,hx3,hx4,hx5⟩,HR4⟩⟩
  . exact ⟨rfl,(HE.out.trans HK3).trans HK4,Or.inl ⟨by rw [HG.out];unfold zeh;rw [if_neg hs,hn],rfl⟩⟩
  have hl4:=zou _ _ _ _ hn
  have HP:Hid (zbt (f+1) l=zeh g (acc++[y]) l4):=by show zbt (f+1) l=_;rw [HG.out];unfold zeh;rw [if_neg hs,hn];cases g<;>rfl
  have HX4:Hid (zau w4 (w3.heap.size<=·) y.ds (zze y a1 c1 a2 c2 a3 c3)):=z13 hx1 hx2 hx3 hx4 hx5;have HR4':Hid (Rd R a cap ts w4 l4):=HR4;have HK4':Hid (Keeps R w w4):=(HE.out.trans HK3).trans HK4;have HO4:Hid (Row w.heap.size 176 6 w4 u3 acc.length (zbp acc)):=(HO.out.keeps HK3 hRw).keeps HK4 hRw;have hz4:=HK4.size
  have HL:Hid (∀ k,u3.ownBlock=some k->k<w3.heap.size):=fun k hk=>((HO.out.keeps HK3 hRw).lt k hk).2
  have hle:=HD.out.left;clear hn HR3 HR4 HK3 HK4 hx1 hx2 hx3 hx4 hx5 hs
  go_wp2_with (at_builtin;refine zbs rfl (.tmp 10) (.tmp 13) 25 rfl w.heap.size 176 _ 6 112 Tryz.underlying25 Tryz.infoP48 rfl (by decide) w4 u3 acc.length (zbp acc) y.ds rfl HO4.out _ _ rfl rfl rfl (w3.heap.size<=·) HX4.out ?_ (by omega) (by decide) (by omega) ?_)
  . intro b _ hb
    exact ⟨by omega,fun h=>by have:=HL.out b h;omega⟩
  . intro g5 c5 w5 HO5 HB5 hz5
    have HO5':Hid (Row w.heap.size 176 6 w5 (.slice (some ⟨g5,0,none⟩) (acc.length+1) c5) (acc.length+1) (zbp acc++y.ds)):=HO5;have HR5:Hid (Rd R a cap ts w5 l4):=HR4'.out.belowOf HR.out HB5;have HK5:Hid (Keeps R w w5):=HK4'.out.belowOf HB5;have hl5:=HR5.out.left;clear HO5 HB5 HO4 HR4' HK4' HX4;go_wp2_with fail;go_roundw
    case rel=>exact ⟨g,acc++[y],l4,by omega,HP.out,by omega,by simp;omega,by rw [zhg,zu1,vam];exact HO5'.out,HR5.out,HK5.out⟩
    case measure=>rw [hl5,hle];omega
end Go.Proofs.YtndkhgakfodldaaGreatDoor
