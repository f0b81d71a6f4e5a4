import Derived.Test.YtndkhgakfodldaaGreatDoorCe
import Derived.BigQuiet
namespace Go.Proofs.YtndkhgakfodldaaGreatDoor
set_option maxRecDepth 100000
set_option maxHeartbeats 800000
open Go.RowKit
structure Keeps (R:Nat) (w w':World):Prop where
 os:w'.os=w.os
 tape:w'.tape=w.tape
 output:w'.output=w.output
 size:w.heap.size<=w'.heap.size
 block:∀ k,k<w.heap.size->k≠R->w'.heap[k]? = w.heap[k]?
theorem Keeps.refl (R:Nat) (w:World):Keeps R w w:=⟨rfl,rfl,rfl,vaa _,fun _ _ _=>rfl⟩
theorem Keeps.trans {R:Nat} {a b c:World} (h:Keeps R a b) (k:Keeps R b c):Keeps R a c:=
 ⟨k.os.trans h.os,k.tape.trans h.tape,k.output.trans h.output,vbe h.size k.size,fun i h1 h2=>(k.block i (vai h1 h.size) h2).trans (h.block i h1 h2)⟩
theorem Keeps.of_below {w w':World} (h:Below w.heap.size w w') (R:Nat):Keeps R w w':=⟨h.os,h.tape,h.output,h.size,fun k h1 _=>h.block k h1⟩
theorem Keeps.setCell (R:Nat) (w:World) (j:Nat) (u:Value):Keeps R w (w.setCell ⟨R,j,none⟩ u):=
 ⟨rfl,rfl,rfl,by rw [vam];exact vaa _,fun k _ h2=>Below.heap_setCell w ⟨R,j,none⟩ u k h2⟩
theorem Keeps.cell {R:Nat} {w w':World} (h:Keeps R w w') {b off:Nat} (h1:b<w.heap.size) (h2:b≠R):w'.cell? ⟨b,off,none⟩=w.cell? ⟨b,off,none⟩:=
 vee (w:=w) (h.block b h1 h2)
theorem Keeps.later {R:Nat} {w w1 w2:World} (h:Keeps R w w1) (hb:Below w1.heap.size w1 w2):Keeps R w w2:=h.trans (Keeps.of_below hb R)
theorem Keeps.alloc {R:Nat} {w w1:World} (h:Keeps R w w1) (o:Obj):Keeps R w (w1.alloc o):=h.later ((Below.refl _ _).alloc (vaa _) o)
theorem Keeps.own {R:Nat} {w w1:World} (h:Keeps R w w1) (j:Nat) (u:Value):Keeps R w (w1.setCell ⟨R,j,none⟩ u):=h.trans (Keeps.setCell R w1 j u)
theorem Keeps.set {R:Nat} {w w1:World} (h:Keeps R w w1) {p:Addr} (hp:w.heap.size<=p.block) (u:Value):Keeps R w (w1.setCell p u):=
 ⟨h.os,h.tape,h.output,by rw [vam];exact h.size,fun k h1 h2=>(Below.heap_setCell w1 p u k (by omega)).trans (h.block k h1 h2)⟩
structure Rd (R:Nat) (a:OA) (cap:Nat) (ts:List Tk) (w:World) (l:List Tk):Prop where
 idx:∃ k:Nat,k<=ts.length/\l=ts.drop k/\w.heap[R]? = some (.cells #[.slice a ts.length cap,.int .i64 k] 239 (0,0))
 toks:zdb w a ts
 ne:ts=[]\/∀ b off,a=some ⟨b,off,none⟩->b≠R
 len:ts.length<=4096
theorem zdb.keeps {R:Nat} {w w':World} {a:OA} {ts:List Tk} (h:zdb w a ts) (hk:Keeps R w w') (hne:ts=[]\/∀ b off,a=some ⟨b,off,none⟩->b≠R):zdb w' a ts:=by
 rcases hne with h0 | hne
 . exact Or.inl h0
 rcases h with h | ⟨b,off,ha,h⟩
 . exact Or.inl h
 . have hb:=hne b off ha
   have hl:=h.lt;exact Or.inr ⟨b,off,ha,vai hl hk.size,fun i hi=>(hk.cell hl hb).trans (h.kind i hi),fun i hi=>(hk.cell hl hb).trans (h.num i hi),fun i hi=>(hk.cell hl hb).trans (h.text i hi),h.fits⟩
section
variable {R cap:Nat} {a:OA} {ts l:List Tk} {w w':World}
theorem Rd.lt (h:Rd R a cap ts w l):R<w.heap.size:=by obtain ⟨k,_,_,hb⟩:=h.idx;exact zaa hb
theorem Rd.later (h:Rd R a cap ts w l) (hb:Below w.heap.size w w'):Rd R a cap ts w' l:=by
 obtain ⟨k,h1,h2,h3⟩:=h.idx;exact ⟨⟨k,h1,h2,(hb.block R (zaa h3)).trans h3⟩,h.toks.later hb,h.ne,h.len⟩
theorem Rd.at_ {l':List Tk} {j:Nat} (h:Rd R a cap ts w l) (hk:Keeps R w w') (hj:j<=ts.length) (hl:l'=ts.drop j) (hb:w'.heap[R]? = some (.cells #[.slice a ts.length cap,.int .i64 j] 239 (0,0))):Rd R a cap ts w' l':=
 ⟨⟨j,hj,hl,hb⟩,h.toks.keeps hk h.ne,h.ne,h.len⟩
theorem Rd.still (h:Rd R a cap ts w l) (hk:Keeps R w w') (hb:w'.heap[R]? = w.heap[R]?):Rd R a cap ts w' l:=by
 obtain ⟨k,h1,h2,h3⟩:=h.idx;exact ⟨⟨k,h1,h2,hb.trans h3⟩,h.toks.keeps hk h.ne,h.ne,h.len⟩
theorem Rd.set (h:Rd R a cap ts w l) {p:Addr} (hp:p.block≠R) (ht:∀ b off,a=some ⟨b,off,none⟩->p.block≠b) (u:Value):Rd R a cap ts (w.setCell p u) l:=by
 obtain ⟨k,h1,h2,h3⟩:=h.idx;refine ⟨⟨k,h1,h2,(Below.heap_setCell w p u R (Ne.symm hp)).trans h3⟩,?_,h.ne,h.len⟩
 rcases h.toks with h4 | ⟨b,off,ha,h4⟩
 . exact Or.inl h4
 . have e:∀ j,(w.setCell p u).cell? ⟨b,j,none⟩=w.cell? ⟨b,j,none⟩:=fun j=>vee (w:=w) (Below.heap_setCell w p u b (Ne.symm (ht b off ha)))
   exact Or.inr ⟨b,off,ha,by rw [vam];exact h4.lt,fun i hi=>(e _).trans (h4.kind i hi),fun i hi=>(e _).trans (h4.num i hi),fun i hi=>(e _).trans (h4.text i hi),h4.fits⟩
theorem Rd.alloc (h:Rd R a cap ts w l) (o:Obj):Rd R a cap ts (w.alloc o) l:=h.later ((Below.refl _ _).alloc (vaa _) o)
theorem Rd.setAbove {w0:World} {l0:List Tk} (h:Rd R a cap ts w l) (h0:Rd R a cap ts w0 l0) {p:Addr} (hp:w0.heap.size<=p.block) (u:Value):Rd R a cap ts (w.setCell p u) l:=by
 refine ⟨?_,?_,h.ne,h.len⟩
 . obtain ⟨k,h1,h2,h3⟩:=h.idx
   exact ⟨k,h1,h2,(Below.heap_setCell w p u R (by have:=zaa h0.idx.choose_spec.2.2;omega)).trans h3⟩
 rcases h0.toks with h4 | ⟨b,off,ha,h4⟩
 . exact Or.inl h4
 . rcases h.toks with h5 | ⟨b',off',ha',h5⟩
   . exact Or.inl h5
   . have eq:b'=b:=by rw [ha] at ha';injection ha' with ha';injection ha' with e1 e2;exact e1.symm
     subst eq
     have e:∀ j,(w.setCell p u).cell? ⟨b',j,none⟩=w.cell? ⟨b',j,none⟩:=fun j=>vee (w:=w) (Below.heap_setCell w p u b' (by have:=h4.lt;omega))
     exact Or.inr ⟨b',off',ha',by rw [vam];exact h5.lt,fun i hi=>(e _).trans (h5.kind i hi),fun i hi=>(e _).trans (h5.num i hi),fun i hi=>(e _).trans (h5.text i hi),h5.fits⟩
theorem Rd.adv {k:Nat} (h:Rd R a cap ts w (ts.drop k)) (hk:k<ts.length) (hb:w.heap[R]? = some (.cells #[.slice a ts.length cap,.int .i64 k] 239 (0,0))) :
 Rd R a cap ts (w.setCell ⟨R,1,none⟩ (.int .i64 ((k:Int)+1))) (ts.drop (k+1)):=by
 refine ⟨⟨k+1,by omega,rfl,?_⟩,h.toks.keeps (Keeps.setCell R w 1 _) h.ne,h.ne,h.len⟩;simp [World.setCell,Array.getElem?_modify,hb]
end
theorem zn5 (R cap n:Nat) (a:OA) (ts l:List Tk) (w:World) (hn:n<=1) (h:Rd R a cap ts w l) :
 Calls Tryz.prog 252 #[.pointer (some ⟨R,0,none⟩),.int .i64 n] w fun e w'=>e = .returned (Tk.val (l.getD n noTk))/\Below w.heap.size w w':=by
 obtain ⟨k,hk,rfl,hb⟩:=h.idx
 have hc0:w.cell? ⟨R,0,none⟩=some (.slice a ts.length cap):=by rw [veb hb];rfl
 have hc1:w.cell? ⟨R,1,none⟩=some (.int .i64 k):=by rw [veb hb];rfl
 have hlt:=h.lt;have hlen:=h.len
 by_cases hkn:k+n<ts.length
 . have HV:Hid (Tk.val ((ts.drop k).getD n noTk) = .agg #[.int .i64 ts[k+n].kind,.int .i64 ts[k+n].n,.string ts[k+n].text]):=by
    show Tk.val _=_;rw [vcd,vba (by rw [vbp];omega),Option.getD_some,vdq]
    rfl
   obtain ⟨b,off,rfl,hT⟩:=h.toks.place hkn;have hd0:=hT.kind (k+n) hkn;have hd1:=hT.num (k+n) hkn;have hd2:=hT.text (k+n) hkn;have hbl:=hT.lt;clear hT h hb;go_enter Tryz.func252,Tryz.ntmps252;go_wp2_with fail
   go_quiet ((fail))
   go_wp2_with fail
   go_region
   go_wp2_with fail;refine bodyPost_ret (v:=.agg #[.int .i64 ts[k+n].kind,.int .i64 ts[k+n].n,.string ts[k+n].text]) (by simp [results,Tryz.results252,go_sem]) rfl ⟨by rw [HV.out],?_⟩;exact (((below_drewN ((Below.refl _ _).alloc (vaa _) _) _).setCell (p:=⟨w.heap.size,0,none⟩) (vaa _) _).setCell (p:=⟨w.heap.size,1,none⟩) (vaa _) _).setCell (p:=⟨w.heap.size,2,none⟩) (vaa _) _
 . have HV:Hid (Tk.val ((ts.drop k).getD n noTk) = .agg #[.int .i64 0,.int .i64 0,.string ⟨#[]⟩]):=by
    show Tk.val _=_;rw [vcd,vct (by rw [vbp];omega)]
    rfl
   clear h hb;go_enter Tryz.func252,Tryz.ntmps252;go_wp2_with fail
   go_quiet ((fail))
   go_wp2_with fail;refine bodyPost_ret (v:=.agg #[.int .i64 0,.int .i64 0,.string ⟨#[]⟩]) (by simp [results,Tryz.results252,go_sem]) rfl ⟨by rw [HV.out],?_⟩;exact (((below_drewN ((Below.refl _ _).alloc (vaa _) _) _).setCell (p:=⟨w.heap.size,0,none⟩) (vaa _) _).setCell (p:=⟨w.heap.size,1,none⟩) (vaa _) _).setCell (p:=⟨w.heap.size,2,none⟩) (vaa _) _
set_option maxHeartbeats 1600000
theorem zzz {ts:List Tk} {k:Nat} (h:k<ts.length):hd (ts.drop k)=ts[k]:=by
 unfold hd;rw [vcd,vba (by rw [vbp];omega),Option.getD_some,vdq]
 rfl
theorem zy0 {ts:List Tk} {k:Nat} (h:¬ k<ts.length):hd (ts.drop k)=noTk:=by
 rw [vcp (by omega)];rfl
theorem z2d {ts:List Tk} {k:Nat} {t:ByteArray} (ht:0<t.size) (h:skB (ts.drop k) t=true):k<ts.length:=by
 by_cases hk:k<ts.length
 . exact hk
 . unfold skB at h
   rw [zy0 hk,vas,vas] at h
   have:t.data.toList=[]:=by simpa [noTk] using (beq_iff_eq.1 h).symm
   have:=Lx.za1 t;simp_all
theorem zn6 (R cap:Nat) (a:OA) (ts l:List Tk) (w:World) (h:Rd R a cap ts w l) :
 Calls Tryz.prog 252 #[.pointer (some ⟨R,0,none⟩),.int .i64 0] w fun e w'=>e = .returned (.agg #[.int .i64 (hd l).kind,.int .i64 (hd l).n,.string (hd l).text])/\Below w.heap.size w w':=
 zn5 R cap 0 a ts l w (by omega) h
theorem zy1 (k n:Int) (t:ByteArray):∀ w:World,(Instr.field 184 (.agg #[.int .i64 k,.int .i64 n,.string t]) 0).run Tryz.prog w = .ok (.int .i64 k) w:=fun _=>by kernel_rfl
theorem zq1 (k n:Int) (t:ByteArray):∀ w:World,(Instr.field 184 (.agg #[.int .i64 k,.int .i64 n,.string t]) 2).run Tryz.prog w = .ok (.string t) w:=fun _=>by kernel_rfl
theorem zbr (R cap:Nat) (a:OA) (ts l:List Tk) (t:ByteArray) (w:World) (ht:0<t.size) (h:Rd R a cap ts w l) (hs:skB l t=true) :
 Calls Tryz.prog 197 #[.pointer (some ⟨R,0,none⟩),.string t] w fun e w'=>e = .returned (.bool true)/\Rd R a cap ts w' l.tail/\Keeps R w w':=by
 obtain ⟨k,hk,rfl,hb⟩:=h.idx;have hlt:=z2d ht hs;have HR:Hid (Rd R a cap ts w (ts.drop k)):=h;have HA:Hid (Calls Tryz.prog 252 #[.pointer (some ⟨R,0,none⟩),.int .i64 0] w fun e w'=>e = .returned (.agg #[.int .i64 (hd (ts.drop k)).kind,.int .i64 (hd (ts.drop k)).n,.string (hd (ts.drop k)).text])/\Below w.heap.size w w'):=zn6 R cap a ts (ts.drop k) w h
 have HT:Hid ((ts.drop k).tail=ts.drop (k+1)):=by show List.tail _=_;rw [List.tail_drop]
 have hl4:=h.len;have hs':((hd (ts.drop k)).text.toList == t.toList)=true:=hs;have HB:Hid (w.heap[R]? = some (.cells #[.slice a ts.length cap,.int .i64 k] 239 (0,0))):=hb;clear h hs hb;generalize hd (ts.drop k)=T at *;have hf2:=zq1 T.kind T.n T.text;go_enter Tryz.func197,Tryz.ntmps197;go_wp2_with fail;refine HA.out.mono ?_;rintro e w1 ⟨rfl,hb1⟩;have HB1:Hid (w1.heap[R]? = some (.cells #[.slice a ts.length cap,.int .i64 k] 239 (0,0))):=(hb1.block R HR.out.lt).trans HB.out
 have hc1:w1.cell? ⟨R,1,none⟩=some (.int .i64 k):=by rw [veb HB1.out];rfl
 have hf1:w1.frozen? ⟨R,1,none⟩=false:=ved HB1.out 1;clear HA;go_wp2_with fail;go_ret;refine ⟨rfl,?_,(Keeps.of_below hb1 R).trans (Keeps.setCell R w1 1 _)⟩;rw [HT.out];exact (HR.out.later hb1).adv hlt HB1.out
theorem zb8 (R cap:Nat) (a:OA) (ts l:List Tk) (t:ByteArray) (w:World) (h:Rd R a cap ts w l) (hs:skB l t=false) :
 Calls Tryz.prog 197 #[.pointer (some ⟨R,0,none⟩),.string t] w fun e w'=>e = .returned (.bool false)/\Rd R a cap ts w' l/\Keeps R w w':=by
 have HR:Hid (Rd R a cap ts w l):=h;have HA:Hid (Calls Tryz.prog 252 #[.pointer (some ⟨R,0,none⟩),.int .i64 0] w fun e w'=>e = .returned (.agg #[.int .i64 (hd l).kind,.int .i64 (hd l).n,.string (hd l).text])/\Below w.heap.size w w'):=zn6 R cap a ts l w h;have hs':((hd l).text.toList == t.toList)=false:=hs;clear h hs;generalize hd l=T at *;have hf2:=zq1 T.kind T.n T.text;go_enter Tryz.func197,Tryz.ntmps197;go_wp2_with fail;refine HA.out.mono ?_;rintro e w1 ⟨rfl,hb1⟩;clear HA;go_wp2_with fail;go_ret;exact ⟨rfl,HR.out.later hb1,Keeps.of_below hb1 R⟩
theorem zq2 (R cap:Nat) (a:OA) (ts l:List Tk) (w:World) (h:Rd R a cap ts w l) :
 Calls Tryz.prog 251 #[.pointer (some ⟨R,0,none⟩)] w fun e w'=>e = .returned (.agg #[.int .i64 (hd l).kind,.int .i64 (hd l).n,.string (hd l).text])/\(l≠[]->Rd R a cap ts w' l.tail)/\Keeps R w w':=by
 obtain ⟨k,hk,rfl,hb⟩:=h.idx;have HR:Hid (Rd R a cap ts w (ts.drop k)):=h;have hl4:=h.len
 have HN:Hid (ts.drop k≠[]->k<ts.length):=fun hne=>by
  by_cases hk:k<ts.length
  . exact hk
  . exact absurd (vcp (by omega)) hne
 have HT:Hid ((ts.drop k).tail=ts.drop (k+1)):=by show List.tail _=_;rw [List.tail_drop]
 have HB:Hid (w.heap[R]? = some (.cells #[.slice a ts.length cap,.int .i64 k] 239 (0,0))):=hb
 have HA:Hid (∀ w:World,Rd R a cap ts w (ts.drop k)->Calls Tryz.prog 252 #[.pointer (some ⟨R,0,none⟩),.int .i64 0] w fun e w'=>e = .returned (.agg #[.int .i64 (hd (ts.drop k)).kind,.int .i64 (hd (ts.drop k)).n,.string (hd (ts.drop k)).text])/\Below w.heap.size w w'):=fun w h=>zn6 R cap a ts (ts.drop k) w h
 clear h hb;generalize hd (ts.drop k)=T at *;go_enter Tryz.func251,Tryz.ntmps251;go_wp2_with fail;refine (HA.out _ (HR.out.later ((Below.refl _ _).alloc (vaa _) _))).mono ?_;rintro e w1 ⟨rfl,hb1⟩;have hb0:Below w.heap.size w w1:=((Below.refl _ _).alloc (vaa _) _).trans (hb1.mono (by simp));have hrl:=HR.out.lt;have hz1:=hb1.size;simp at hz1;have HB1:Hid (w1.heap[R]? = some (.cells #[.slice a ts.length cap,.int .i64 k] 239 (0,0))):=(hb0.block R hrl).trans HB.out
 have hc1:w1.cell? ⟨R,1,none⟩=some (.int .i64 k):=by rw [veb HB1.out];rfl
 have hf1:w1.frozen? ⟨R,1,none⟩=false:=ved HB1.out 1;have hcw:w1.heap[w.heap.size]? = some (.cells #[.int .i64 0,.int .i64 0,.string ⟨#[]⟩] 184):=(hb1.block w.heap.size (by simp)).trans (_root_.Go.heap_alloc_new w _)
 have hd0:w1.cell? ⟨w.heap.size,0,none⟩=some (.int .i64 0):=by rw [veb hcw];rfl
 have hd1:w1.cell? ⟨w.heap.size,1,none⟩=some (.int .i64 0):=by rw [veb hcw];rfl
 have hd2:w1.cell? ⟨w.heap.size,2,none⟩=some (.string ⟨#[]⟩):=by rw [veb hcw];rfl
 have hg0:w1.frozen? ⟨w.heap.size,0,none⟩=false:=ved hcw 0;have hg1:w1.frozen? ⟨w.heap.size,1,none⟩=false:=ved hcw 1;have hg2:w1.frozen? ⟨w.heap.size,2,none⟩=false:=ved hcw 2;clear hcw
 have hRl:R<w1.heap.size:=by omega
 have hwl:w.heap.size<w1.heap.size:=by omega
 have hne:w.heap.size≠R:=by omega
 go_wp2_with fail;refine bodyPost_ret (v:=.agg #[.int .i64 T.kind,.int .i64 T.n,.string T.text]) (by simp [results,Tryz.results251,go_sem,hd0,hd1,hd2,hwl]) rfl ⟨rfl,fun hne'=>?_,?_⟩
 . rw [HT.out]
   exact (((((HR.out.later hb0).adv (HN.out hne') HB1.out).setAbove HR.out (vaa _) _).setAbove HR.out (vaa _) _).setAbove HR.out (vaa _) _).alloc _
 . exact ((((Keeps.of_below hb0 R).own 1 _).set (vaa _) _).set (vaa _) _).set (vaa _) _ |>.alloc _
theorem zjo (s:ByteArray) (w:World) :
 Calls Tryz.prog 237 #[.string s] w fun e w'=>e = .returned (.bool (zma s))/\w'=w:=by
 go_enter Tryz.func237,Tryz.ntmps237;go_wp2_with fail
 all_goals go_ret
 all_goals exact ⟨zab (by simp_all [zma,zzi]),rfl⟩
def zdy {α:Type} (R:Nat) (a:OA) (cap:Nat) (ts:List Tk) (w:World) (r:Option (α × List Tk)) (rep:α->World->Value->Prop) (e:Ending) (w':World):Prop:=
 Keeps R w w'/\((r=none/\e = .panicked zak)\/∃ x l v,r=some (x,l)/\e = .returned v/\rep x w' v/\Rd R a cap ts w' l)
theorem Rd.fit {R cap:Nat} {a:OA} {ts l:List Tk} {w:World} (h:Rd R a cap ts w l):(hd l).text.size<=maxLen:=by
 obtain ⟨k,hk,rfl,hb⟩:=h.idx
 by_cases hlt:k<ts.length
 . rw [zzz hlt]
   obtain ⟨b,off,_,hT⟩:=h.toks.place hlt;exact hT.fits k hlt
 . rw [zy0 hlt];exact vad _
theorem zb4 (R cap:Nat) (a:OA) (ts l:List Tk) (w:World) (h:Rd R a cap ts w l) :
 Calls Tryz.prog 196 #[.pointer (some ⟨R,0,none⟩)] w (zdy R a cap ts w (zdh l) fun x _ v=>v = .string x/\x.size<=maxLen):=by
 have HT:Hid (Calls Tryz.prog 251 #[.pointer (some ⟨R,0,none⟩)] w fun e w'=>e = .returned (.agg #[.int .i64 (hd l).kind,.int .i64 (hd l).n,.string (hd l).text])/\(l≠[]->Rd R a cap ts w' l.tail)/\Keeps R w w'):=zq2 R cap a ts l w h;have HF:Hid ((hd l).text.size<=maxLen):=h.fit;go_enter Tryz.func196,Tryz.ntmps196;go_wp2_with fail;refine HT.out.mono ?_;rintro e w1 ⟨rfl,HR1,HK1⟩
 by_cases hk:(hd l).kind=1
 . have HN:Hid (zdh l=if !zma (hd l).text then some ((hd l).text,l.tail) else none):=by show zdh l=_;unfold zdh;simp [hk]
   have HL:Hid (l≠[]):=zjc (by rw [hk];decide)
   by_cases hp:zma (hd l).text=true
   . go_wp2_with (go_at_call 237;refine (zjo _ _).mono ?_;rintro e w' ⟨rfl,rfl⟩)
     exact ⟨rfl,HK1.alloc _,Or.inl ⟨by rw [HN.out,hp];rfl,rfl⟩⟩
   . have hp':zma (hd l).text=false:=by simpa using hp
     clear hp
     go_wp2_with (go_at_call 237;refine (zjo _ _).mono ?_;rintro e w' ⟨rfl,rfl⟩)
     go_ret;exact ⟨HK1.alloc _,Or.inr ⟨_,_,_,by rw [HN.out,hp'];rfl,rfl,⟨rfl,HF.out⟩,(HR1 HL.out).alloc _⟩⟩
 . have HN:Hid (zdh l=none):=by show zdh l=_;unfold zdh;simp [hk]
   go_wp2_with fail;exact ⟨rfl,HK1.alloc _,Or.inl ⟨HN.out,rfl⟩⟩
theorem zgh (R cap:Nat) (a:OA) (ts l:List Tk) (w:World) (h:Rd R a cap ts w l) :
 Calls Tryz.prog 253 #[.pointer (some ⟨R,0,none⟩)] w (zdy R a cap ts w (zkm l) fun x _ v=>v = .int .i64 x):=by
 have HT:Hid (Calls Tryz.prog 251 #[.pointer (some ⟨R,0,none⟩)] w fun e w'=>e = .returned (.agg #[.int .i64 (hd l).kind,.int .i64 (hd l).n,.string (hd l).text])/\(l≠[]->Rd R a cap ts w' l.tail)/\Keeps R w w'):=zq2 R cap a ts l w h;go_enter Tryz.func253,Tryz.ntmps253;go_wp2_with fail;refine HT.out.mono ?_;rintro e w1 ⟨rfl,HR1,HK1⟩
 by_cases hk:(hd l).kind=2
 . have HN:Hid (zkm l=some ((hd l).n,l.tail)):=by show zkm l=_;unfold zkm;simp [hk]
   have HL:Hid (l≠[]):=zjc (by rw [hk];decide);go_wp2_with fail;go_ret;exact ⟨HK1.alloc _,Or.inr ⟨_,_,_,HN.out,rfl,rfl,(HR1 HL.out).alloc _⟩⟩
 . have HN:Hid (zkm l=none):=by show zkm l=_;unfold zkm;simp [hk]
   go_wp2_with fail;exact ⟨rfl,HK1.alloc _,Or.inl ⟨HN.out,rfl⟩⟩
theorem zu8 {α:Type} {p:α->Bool}:∀ {l:List α},(l.take l.length).all (fun x=>!p x)=true->l.find? p=none:=by
 intro l h;rw [vav] at h;rw [vcq];intro x hx;have:=vat.1 h x hx;simpa using this
theorem zps {α:Type} {p:α->Bool}:∀ {l:List α} {k:Nat} (hk:k<l.length),(l.take k).all (fun x=>!p x)=true->p l[k]=true->l.find? p=some l[k]
 | [],k,hk,_,_=>by simp at hk
 | x :: r,0,hk,_,h=>by simp at h;simp [h]
 | x :: r,k+1,hk,ha,h=>by
   simp only [List.take_succ_cons,vbs,van] at ha
   have hx:p x=false:=by simpa using ha.1
   rw [vcm,hx];exact zps (by simpa using hk) ha.2 h
theorem zi0 (R cap b c:Nat) (a:OA) (ts l:List Tk) (texts:List ByteArray) (w:World) (h:Rd R a cap ts w l) (hb:b<w.heap.size) (hbR:b≠R) (hn:texts.length<=100)
 (hc:∀ i (h:i<texts.length),w.cell? ⟨b,i,none⟩=some (.string texts[i])) (hp:∀ i (h:i<texts.length),0<texts[i].size) :
 Calls Tryz.prog 195 #[.pointer (some ⟨R,0,none⟩),.slice (some ⟨b,0,none⟩) texts.length c] w (zdy R a cap ts w ((zio l texts).map fun t=>(t,l.tail)) fun x _ v=>v = .string x):=by
 have HR:Hid (Rd R a cap ts w l):=h;have HC:Hid (∀ i (h:i<texts.length),w.cell? ⟨b,i,none⟩=some (.string texts[i])):=hc;have HP:Hid (∀ i (h:i<texts.length),0<texts[i].size):=hp;clear h hc hp;go_enter Tryz.func195,Tryz.ntmps195;go_wp2_with fail
 go_loopw [9,6] (fun i _ wr=>∃ k:Nat,k<=texts.length/\i = .int .i64 k/\(texts.take k).all (fun t=>!skB l t)=true/\Rd R a cap ts wr l/\Keeps R w wr) (fun i _ _=>texts.length - (intOf i).toNat)
 case atStart=>exact ⟨0,vad _,rfl,rfl,HR.out,Keeps.refl _ _⟩
 case round=>
  obtain ⟨k,hk,rfl,hall,hrd,hke⟩:=hrel;have HA:Hid ((texts.take k).all (fun t=>!skB l t)=true):=hall;have HD:Hid (Rd R a cap ts wr l):=hrd;clear hall hrd
  by_cases hlt:k<texts.length
  . have hck:wr.cell? ⟨b,k,none⟩=some (.string texts[k]):=(hke.cell hb hbR).trans (HC.out k hlt)
    by_cases hs:skB l texts[k]=true
    . have HS:Hid (Calls Tryz.prog 197 #[.pointer (some ⟨R,0,none⟩),.string texts[k]] wr fun e w'=>e = .returned (.bool true)/\Rd R a cap ts w' l.tail/\Keeps R wr w'):=zbr R cap a ts l texts[k] wr (HP.out k hlt) HD.out hs
      have HM:Hid (zio l texts=some texts[k]):=zps hlt HA.out hs
      go_wp2_with (go_at_call 197;refine HS.out.mono ?_;rintro e w2 ⟨rfl,HR2,HK2⟩)
      go_ret;exact ⟨hke.trans HK2,Or.inr ⟨_,_,_,by rw [HM.out];rfl,rfl,rfl,HR2⟩⟩
    . have hs':skB l texts[k]=false:=by simpa using hs
      have HS:Hid (Calls Tryz.prog 197 #[.pointer (some ⟨R,0,none⟩),.string texts[k]] wr fun e w'=>e = .returned (.bool false)/\Rd R a cap ts w' l/\Keeps R wr w'):=zb8 R cap a ts l texts[k] wr HD.out hs'
      go_wp2_with (go_at_call 197;refine HS.out.mono ?_;rintro e w2 ⟨rfl,HR2,HK2⟩)
      go_roundw
      case rel=>exact ⟨k+1,by omega,by go_num,by rw [all_snoc texts _ k hlt,HA.out,hs'];rfl,HR2,hke.trans HK2⟩
      case measure=>simp [intOf];omega
  . have hke':k=texts.length:=by omega
    subst hke';have HM:Hid (zio l texts=none):=zu8 HA.out;go_wp2_with fail;exact ⟨rfl,hke,Or.inl ⟨by rw [HM.out];rfl,rfl⟩⟩
theorem ze3 (R cap n:Nat) (a:OA) (ts l:List Tk) (t:ByteArray) (w:World) (hn:n=w.heap.size) (h:Rd R a cap ts w l) (ht:0<t.size) :
 Calls Tryz.prog 195 #[.pointer (some ⟨R,0,none⟩),.slice (some ⟨n,0,none⟩) 1 1] (w.alloc (.cells #[.string t] 9)) fun e w'=>Keeps R w w'/\((skB l t=false/\e = .panicked zak)\/(skB l t=true/\e = .returned (.string t)/\Rd R a cap ts w' l.tail)):=by
 have hlt:=h.lt;subst hn;refine (zi0 R cap w.heap.size 1 a ts l [t] _ (h.alloc _) (by simp) (by omega) (by simp) (fun i hi=>?_) (fun i hi=>?_)).mono ?_
 . obtain rfl:i=0:=by simp at hi;omega
   simp
 . obtain rfl:i=0:=by simp at hi;omega
   exact ht
 . rintro e w' ⟨hk,hr⟩
   refine ⟨((Keeps.refl R w).alloc _).trans hk,?_⟩
   have hm:zio l [t]=if skB l t then some t else none:=by unfold zio;rw [vcm];cases skB l t<;>rfl
   rw [hm] at hr
   cases hs:skB l t
   . rw [hs] at hr
     rcases hr with ⟨_,rfl⟩ | ⟨x,l',v,hr,_⟩
     . exact Or.inl ⟨rfl,rfl⟩
     . simp at hr
   . rw [hs] at hr
     rcases hr with ⟨hr,_⟩ | ⟨x,l',v,hr,rfl,rfl,hR⟩
     . simp at hr
     . simp at hr
       obtain ⟨rfl,rfl⟩:=hr;exact Or.inr ⟨rfl,rfl,hR⟩
theorem zmp (R cap:Nat) (a:OA) (ts l:List Tk) (t:ByteArray) (w:World) (ht:0<t.size) (h:Rd R a cap ts w l) :
 Calls Tryz.prog 197 #[.pointer (some ⟨R,0,none⟩),.string t] w fun e w'=>e = .returned (.bool (skB l t))/\Rd R a cap ts w' (if skB l t then l.tail else l)/\Keeps R w w':=by
 cases hs:skB l t
 . exact zb8 R cap a ts l t w h hs
 . exact zbr R cap a ts l t w ht h hs
set_option maxHeartbeats 800000
theorem zaf {w:World} {b i:Nat} {cs:Array Value} {t:TypeId} {f:Nat × Nat} (h:w.heap[b]? = some (.cells cs t f)) (u:Value):(w.setCell ⟨b,i,none⟩ u).heap[b]? = some (.cells (cs.setIfInBounds i u) t f):=by
 simp [World.setCell,Array.getElem?_modify,h]
theorem heap_set_ne {w:World} {b:Nat} {p:Addr} (h:b≠p.block) (u:Value):(w.setCell p u).heap[b]? = w.heap[b]?:=Below.heap_setCell w p u b h
theorem zad {w:World} {b:Nat} {x o:Obj} (h:w.heap[b]? = some x):(w.alloc o).heap[b]? = some x:=((Below.refl w.heap.size w).alloc (vaa _) o |>.block b (zaa h)).trans h
theorem heap_newP (w:World) (o:Obj):(w.alloc o).heap[w.heap.size]? = some o:=_root_.Go.heap_alloc_new w o
theorem zac {w:World} {b:Nat} {x0 x1 x2 x3 x4:Value} {t:TypeId} (h:w.heap[b]? = some (.cells #[x0,x1,x2,x3,x4] t (0,0))) :
 w.cell? ⟨b,0,none⟩=some x0/\w.cell? ⟨b,1,none⟩=some x1/\w.cell? ⟨b,2,none⟩=some x2/\w.cell? ⟨b,3,none⟩=some x3/\w.cell? ⟨b,4,none⟩=some x4/\∀ i,w.frozen? ⟨b,i,none⟩=false:=by
 refine ⟨?_,?_,?_,?_,?_,fun i=>ved h i⟩<;>(rw [veb h];rfl)
theorem zao {w:World} {b:Nat} {x0 x1 x2 x3 x4 x5:Value} {t:TypeId} (h:w.heap[b]? = some (.cells #[x0,x1,x2,x3,x4,x5] t (0,0))) :
 w.cell? ⟨b,0,none⟩=some x0/\w.cell? ⟨b,1,none⟩=some x1/\w.cell? ⟨b,2,none⟩=some x2/\w.cell? ⟨b,3,none⟩=some x3/\w.cell? ⟨b,4,none⟩=some x4/\w.cell? ⟨b,5,none⟩=some x5/\∀ i,w.frozen? ⟨b,i,none⟩=false:=by
 refine ⟨?_,?_,?_,?_,?_,?_,fun i=>ved h i⟩<;>(rw [veb h];rfl)
theorem zcs {w:World} {b:Nat} {x0 x1 x2 x3:Value} {t:TypeId} (h:w.heap[b]? = some (.cells #[x0,x1,x2,x3] t (0,0))) :
 w.cell? ⟨b,0,none⟩=some x0/\w.cell? ⟨b,1,none⟩=some x1/\w.cell? ⟨b,2,none⟩=some x2/\w.cell? ⟨b,3,none⟩=some x3/\∀ i,w.frozen? ⟨b,i,none⟩=false:=by
 refine ⟨?_,?_,?_,?_,fun i=>ved h i⟩<;>(rw [veb h];rfl)
theorem zae.keeps {R:Nat} {w w1 w2:World} {A A':Nat->Prop} (h:zae w A w1 A') (hk:Keeps R w1 w2) (hR:∀ b,b<w.heap.size->A b->b≠R):zae w A w2 A':=
 ⟨vbe h.1 hk.size,fun b hb ha=>⟨(h.2 b hb ha).1,(hk.block b (vai hb h.1) (hR b hb ha)).trans (h.2 b hb ha).2⟩⟩
theorem zae.set {w w1:World} {A A':Nat->Prop} (h:zae w A w1 A') {p:Addr} (hp:∀ b,b<w.heap.size->A b->b≠p.block) (u:Value):zae w A (w1.setCell p u) A':=
 ⟨by rw [vam];exact h.1,fun b hb ha=>⟨(h.2 b hb ha).1,(Below.heap_setCell w1 p u b (hp b hb ha)).trans (h.2 b hb ha).2⟩⟩
theorem zae.to {w w1:World} {lo lo':Nat} (h:zae w (lo<=·) w1 (lo<=·)) (hl:lo'<=lo):zae w (lo<=·) w1 (lo'<=·):=h.trans (zae.lower hl)
theorem Keeps.drew {R:Nat} {w w1:World} (h:Keeps R w w1):Keeps R w w1.drew:=⟨h.os,h.tape,h.output,h.size,h.block⟩
theorem Rd.drew {R cap:Nat} {a:OA} {ts l:List Tk} {w:World} (h:Rd R a cap ts w l):Rd R a cap ts w.drew l:=h.still (Keeps.refl R w).drew rfl
theorem zae.drew {w w1:World} {A A':Nat->Prop} (h:zae w A w1 A'):zae w A w1.drew A':=⟨h.1,h.2⟩
abbrev set5 (w:World) (b:Nat) (v0 v1 v2 v3 v4:Value):World:=((((w.setCell ⟨b,0,none⟩ v0).setCell ⟨b,1,none⟩ v1).setCell ⟨b,2,none⟩ v2).setCell ⟨b,3,none⟩ v3).setCell ⟨b,4,none⟩ v4
abbrev set6 (w:World) (b:Nat) (v0 v1 v2 v3 v4 v5:Value):World:=(set5 w b v0 v1 v2 v3 v4).setCell ⟨b,5,none⟩ v5
section
variable {R cap b:Nat} {w w0 w1:World} {a:OA} {ts l l0:List Tk} {A A':Nat->Prop}
theorem Keeps.set5 (h:Keeps R w w1) (hp:w.heap.size<=b) (v0 v1 v2 v3 v4:Value):Keeps R w (set5 w1 b v0 v1 v2 v3 v4):=((((h.set hp v0).set hp v1).set hp v2).set hp v3).set hp v4
theorem Keeps.set6 (h:Keeps R w w1) (hp:w.heap.size<=b) (v0 v1 v2 v3 v4 v5:Value):Keeps R w (set6 w1 b v0 v1 v2 v3 v4 v5):=(h.set5 hp v0 v1 v2 v3 v4).set hp v5
theorem Rd.set5 (h:Rd R a cap ts w1 l) (h0:Rd R a cap ts w0 l0) (hp:w0.heap.size<=b) (v0 v1 v2 v3 v4:Value):Rd R a cap ts (set5 w1 b v0 v1 v2 v3 v4) l:=((((h.setAbove h0 hp v0).setAbove h0 hp v1).setAbove h0 hp v2).setAbove h0 hp v3).setAbove h0 hp v4
theorem Rd.set6 (h:Rd R a cap ts w1 l) (h0:Rd R a cap ts w0 l0) (hp:w0.heap.size<=b) (v0 v1 v2 v3 v4 v5:Value):Rd R a cap ts (set6 w1 b v0 v1 v2 v3 v4 v5) l:=(h.set5 h0 hp v0 v1 v2 v3 v4).setAbove h0 hp v5
theorem zae.set5 (h:zae w A w1 A') (hp:∀ k,k<w.heap.size->A k->k≠b) (v0 v1 v2 v3 v4:Value):zae w A (set5 w1 b v0 v1 v2 v3 v4) A':=((((h.set hp v0).set hp v1).set hp v2).set hp v3).set hp v4
theorem zae.set6 (h:zae w A w1 A') (hp:∀ k,k<w.heap.size->A k->k≠b) (v0 v1 v2 v3 v4 v5:Value):zae w A (set6 w1 b v0 v1 v2 v3 v4 v5) A':=(h.set5 hp v0 v1 v2 v3 v4).set hp v5
end
def zf5 (A:Nat->Prop) (x:Ex) (w:World) (v:Value):Prop:=∃ a cap,v = .agg #[.int .i64 x.op,.int .i64 x.n,.string x.mod,.string x.name,.slice a x.args.length cap]/\x.mod.size<=maxLen/\x.name.size<=maxLen/\EAt w A a x.args.length (za9 x.args)
def ze4 (x:Ex) (a:OA) (cap:Nat):List Value:=[.int .i64 x.op,.int .i64 x.n,.string x.mod,.string x.name,.slice a x.args.length cap]
theorem ze5 {A:Nat->Prop} {x:Ex} {w:World} {a:OA} {cap:Nat} (h1:x.mod.size<=maxLen) (h2:x.name.size<=maxLen) (h3:EAt w A a x.args.length (za9 x.args)):zap w A x.ds (ze4 x a cap):=by
 cases x
 unfold Ex.ds;exact .cons zni (.cons zni (.cons (zs5 h1) (.cons (zs5 h2) (.cons h3.val .nil))))
theorem zjp {A A':Nat->Prop} {x:Ex} {w w':World} {a:OA} {cap g:Nat} {t:TypeId} (h1:x.mod.size<=maxLen) (h2:x.name.size<=maxLen) (h3:EAt w A a x.args.length (za9 x.args))
 (hm:zae w A w' A') (hg:w'.heap[g]? = some (.cells #[.int .i64 x.op,.int .i64 x.n,.string x.mod,.string x.name,.slice a x.args.length cap] t (0,0))) (hA:A' g):EAt w' A' (some ⟨g,0,none⟩) 1 (za9 [x]):=by
 rw [zi3];refine Or.inr ⟨g,0,ze4 x a cap,rfl,hA,zaa hg,fun j u hj=>?_,ze5 h1 h2 (h3.moves hm)⟩;rw [vbc,veb hg];simpa [ze4] using hj
theorem z09 {A B A':Nat->Prop} {x y:Ex} {w u w':World} {a b:OA} {cap dap g:Nat} {t:TypeId} (h:x.mod.size<=maxLen/\x.name.size<=maxLen/\EAt w A a x.args.length (za9 x.args)) (k:y.mod.size<=maxLen/\y.name.size<=maxLen/\EAt u B b y.args.length (za9 y.args))
 (hm:zae w A w' A') (km:zae u B w' A') (hg:w'.heap[g]? = some (.cells #[.int .i64 x.op,.int .i64 x.n,.string x.mod,.string x.name,.slice a x.args.length cap,.int .i64 y.op,.int .i64 y.n,.string y.mod,.string y.name,.slice b y.args.length dap] t (0,0))) (hA:A' g):EAt w' A' (some ⟨g,0,none⟩) 2 (za9 [x,y]):=by
 have e:za9 [x,y]=x.ds++y.ds:=by simp [za9]
 rw [e];refine Or.inr ⟨g,0,ze4 x a cap++ze4 y b dap,rfl,hA,zaa hg,fun j u hj=>?_,(ze5 h.1 h.2.1 (h.2.2.moves hm)).append (ze5 k.1 k.2.1 (k.2.2.moves km))⟩;rw [vbc,veb hg];simpa [ze4] using hj
theorem zu9 (R cap:Nat) (a:OA) (ts l:List Tk) (w:World) (h:Rd R a cap ts w l) :
 Calls Tryz.prog 294 #[.pointer (some ⟨R,0,none⟩)] w (zdy R a cap ts w (ztn l) fun x _ v=>v = .tuple #[.string x.1,.string x.2]/\x.1.size<=maxLen/\x.2.size<=maxLen):=by
 have HN:Hid (Calls Tryz.prog 196 #[.pointer (some ⟨R,0,none⟩)] w (zdy R a cap ts w (zdh l) fun x _ v=>v = .string x/\x.size<=maxLen)):=zb4 R cap a ts l w h;clear h;go_enter Tryz.func294,Tryz.ntmps294;go_wp2_with fail;refine HN.out.mono ?_;rintro e w1 ⟨HK1,⟨hn,rfl⟩ | ⟨x,l1,v,hn,rfl,⟨rfl,hx⟩,HR1⟩⟩
 . exact ⟨rfl,HK1,Or.inl ⟨by unfold ztn;rw [hn],rfl⟩⟩
 have HN1:Hid (zdh l=some (x,l1)):=hn;have HD:Hid (Rd R a cap ts w1 l1):=HR1;clear HN hn HR1;go_wp2_with fail
 by_cases hs:skB l1 zzh=true
 . refine (zbr R cap a ts l1 zzh w1 (by decide) HD.out hs).mono ?_
   rintro e w2 ⟨rfl,HR2,HK2⟩;go_wp2_with fail;refine (zb4 R cap a ts l1.tail w2 HR2).mono ?_;rintro e w3 ⟨HK3,⟨hn3,rfl⟩ | ⟨y,l3,v,hn3,rfl,⟨rfl,hy⟩,HR3⟩⟩
   . exact ⟨rfl,(HK1.trans HK2).trans HK3,Or.inl ⟨by unfold ztn;rw [HN1.out];simp only [];rw [if_pos hs,hn3],rfl⟩⟩
   go_wp2_with fail;go_ret2;exact ⟨(HK1.trans HK2).trans HK3,Or.inr ⟨(x,y),l3,_,by unfold ztn;rw [HN1.out];simp only [];rw [if_pos hs,hn3],rfl,⟨rfl,hx,hy⟩,HR3⟩⟩
 . have hs':skB l1 zzh=false:=by simpa using hs
   refine (zb8 R cap a ts l1 zzh w1 HD.out hs').mono ?_;rintro e w2 ⟨rfl,HR2,HK2⟩;go_wp2_with fail;go_ret2;exact ⟨HK1.trans HK2,Or.inr ⟨(⟨#[]⟩,x),l1,_,by unfold ztn;rw [HN1.out];simp only [];rw [if_neg hs],rfl,⟨rfl,vad _,hx⟩,HR2⟩⟩
theorem zva (l:List Tk):(zio l opTexts=none/\ztw l=none)\/∃ k:Nat,∃ h:k<opTexts.length,zio l opTexts=some opTexts[k]/\ztw l=some k:=by
 unfold ztw zio
 cases hf:opTexts.findIdx? (fun t=>skB l t) with
 | none=>
   left
   rw [vbl] at hf;refine ⟨vcq.2 fun x hx=>by simpa using hf x hx,rfl⟩
 | some k=>
   right
   obtain ⟨hk,h2,h3⟩:=vbd.1 hf;refine ⟨k,hk,?_,rfl⟩;refine zps hk ?_ h2;rw [vat];intro x hx;obtain ⟨j,hj,rfl⟩:=List.mem_take_iff_getElem.1 hx
   have hjk:j<k:=by omega
   simpa using h3 j hjk
abbrev opSigns:ByteArray:=⟨#[38,124,43,45,42,47,37,61,60]⟩
theorem zvb (w:World):Calls Tryz.prog 298 #[.string opSigns,.string ⟨#[]⟩] w fun e w'=>∃ b,e = .returned (.slice (some ⟨b,0,none⟩) 9 9)/\w.heap.size<=b/\b<w'.heap.size/\(∀ i (h:i<opTexts.length),w'.cell? ⟨b,i,none⟩=some (.string opTexts[i]))/\Below w.heap.size w w':=by
 have hascii:∀ (j:Nat) b,opSigns.data.toList[j]? = some b->b.toNat<128:=by
  intro j b hj;have hm:=List.mem_of_getElem? hj
  have hall:∀ x ∈ opSigns.data.toList,x.toNat<128:=by decide
  exact hall b hm
 refine (Tryz.strings_Split_chars opSigns ⟨#[]⟩ w rfl (by decide) hascii).mono ?_;rintro e w' ⟨rfl,rfl⟩;refine ⟨_,rfl,by simp [World.iter],by simp [World.iter],fun i hi=>?_,?_⟩
 . have e9:Lib.charsB opSigns=opTexts:=by decide +kernel
   rw [e9,veb (heap_newP _ _)];simp [hi]
 . exact ((Below.refl w.heap.size w).alloc (vaa _) _).alloc (by simp) _
theorem zxl (R cap b:Nat) (a:OA) (ts l:List Tk) (w:World) (h:Rd R a cap ts w l) (hb:b<w.heap.size) (hbR:b≠R) (hc:∀ i (h:i<opTexts.length),w.cell? ⟨b,i,none⟩=some (.string opTexts[i])) :
 Calls Tryz.prog 195 #[.pointer (some ⟨R,0,none⟩),.slice (some ⟨b,0,none⟩) 9 9] w fun e w'=>Keeps R w w'/\((ztw l=none/\e = .panicked zak)\/∃ (k:Nat) (c:UInt8),ztw l=some k/\k<9/\Lib.indexByte opSigns.data.toList c=k/\e = .returned (.string ⟨#[c]⟩)/\Rd R a cap ts w' l.tail):=by
 refine (zi0 R cap b 9 a ts l opTexts w h hb hbR (by decide) hc (by decide)).mono ?_;rintro e w' ⟨hk,hr⟩;refine ⟨hk,?_⟩
 rcases zva l with ⟨hm,ho⟩ | ⟨k,hk,hm,ho⟩
 . rw [hm] at hr
   rcases hr with ⟨_,rfl⟩ | ⟨_,_,_,h0,_⟩
   . exact Or.inl ⟨ho,rfl⟩
   . cases h0
 . rw [hm] at hr
   rcases hr with ⟨h0,_⟩ | ⟨t3,l3,v3,h0,rfl,rfl,HR3⟩
   . cases h0
   . obtain ⟨rfl,rfl⟩:=vak (vac h0)
     right
     have hs:∀ k (h:k<opTexts.length),∃ c:UInt8,opTexts[k]=⟨#[c]⟩/\Lib.indexByte opSigns.data.toList c=k:=by
      intro k hk;have hk':k<9:=hk
      obtain rfl | rfl | rfl | rfl | rfl | rfl | rfl | rfl | rfl:k=0\/k=1\/k=2\/k=3\/k=4\/k=5\/k=6\/k=7\/k=8:=by omega
      all_goals exact ⟨_,rfl,by decide +kernel⟩
     obtain ⟨c,hc1,hc2⟩:=hs k hk;exact ⟨k,c,ho,hk,hc2,by rw [hc1],HR3⟩
theorem Tryz.infoP80:(Tryz.prog.info? 174).map (fun i=>(i.zero,i.size,i.bytes))=some (some (.agg #[.int .i64 0,.int .i64 0,.string ⟨#[]⟩,.string ⟨#[]⟩,.slice none 0 0]),5,72):=by kernel_rfl
theorem Tryz.infoP48:(Tryz.prog.info? 176).map (fun i=>(i.zero,i.size,i.bytes))=some (some (.agg #[.int .i64 0,.string ⟨#[]⟩,.string ⟨#[]⟩,.slice none 0 0,.slice none 0 0,.slice none 0 0]),6,112):=by kernel_rfl
theorem Tryz.infoP56:(Tryz.prog.info? 170).map (fun i=>(i.zero,i.size,i.bytes))=some (some (.agg #[.int .i64 0,.string ⟨#[]⟩,.bool false,.int .i64 0]),4,40):=by kernel_rfl
theorem Tryz.infoP60:(Tryz.prog.info? 118).map (fun i=>(i.zero,i.size,i.bytes))=some (some (.agg #[.string ⟨#[]⟩,.bool false,.slice none 0 0,.slice none 0 0,.slice none 0 0]),5,96):=by kernel_rfl
theorem Tryz.infoP9:(Tryz.prog.info? 9).map (fun i=>(i.zero,i.size,i.bytes))=some (some (.string ⟨#[]⟩),1,16):=by kernel_rfl
theorem zvc {R:Nat} {w w':World} {base:Nat} {e:TypeId} {size:Nat} {v:Value} {n:Nat} {xs:List Value} (h:w.ownsRow base e size v n xs) (hk:Keeps R w w') (hR:R<base):w'.ownsRow base e size v n xs:=by
 refine ⟨h.1,?_⟩
 rcases h.2 with h2 | ⟨g,cap,cur,h1,hb,hg,hr⟩
 . exact Or.inl h2
 . exact Or.inr ⟨g,cap,cur,h1,hb,(hk.block g (zaa hg) (by omega)).trans hg,hr⟩
def zdu (lo:Nat) (v:Value) (b:Nat):Prop:=lo<=b/\v.ownBlock≠some b
def Row (base:Nat) (e:TypeId) (size:Nat) (w:World) (v:Value) (n:Nat) (ds:List D):Prop:=∃ xs,w.ownsRow base e size v n xs/\zap w (zdu base v) ds xs
section
variable {base:Nat} {e:TypeId} {size:Nat} {w w':World} {v:Value} {n R:Nat} {ds:List D}
theorem Row.nil (base:Nat) (e:TypeId) (size:Nat) (w:World):Row base e size w (.slice none 0 0) 0 []:=⟨[],veg _ _ _ _,.nil⟩
theorem Row.keeps (h:Row base e size w v n ds) (hk:Keeps R w w') (hR:R<base):Row base e size w' v n ds:=by
 obtain ⟨xs,h1,h2⟩:=h;refine ⟨xs,zvc h1 hk hR,h2.moves ((zae.refl w _).keeps hk ?_)⟩
 intro b _ hb;have:=hb.1;omega
theorem Row.later (h:Row base e size w v n ds) (hb:Below w.heap.size w w'):Row base e size w' v n ds:=by
 obtain ⟨xs,h1,h2⟩:=h;exact ⟨xs,ownsRow_later h1 hb,h2.moves (zae.of_below hb _)⟩
theorem Row.alloc (h:Row base e size w v n ds) (o:Obj):Row base e size (w.alloc o) v n ds:=h.later ((Below.refl _ _).alloc (vaa _) o)
theorem Row.set (h:Row base e size w v n ds) {p:Addr} (hp:p.block<base) (u:Value):Row base e size (w.setCell p u) v n ds:=by
 obtain ⟨xs,h1,h2⟩:=h;refine ⟨xs,ownsRow_setCell_below h1 hp u,h2.moves ((zae.refl w _).set ?_ u)⟩
 intro b _ hb;have:=hb.1;omega
theorem Row.slice (h:Row base e size w v n ds):∃ a cap,v = .slice a n cap/\EAt w (base<=·) a n ds:=by
 obtain ⟨xs,h1,h2⟩:=h
 have hm:zae w (zdu base v) w (base<=·):=⟨vaa _,fun b _ hb=>⟨hb.1,rfl⟩⟩
 rcases h1.2 with ⟨rfl,rfl⟩ | ⟨g,cap,cur,rfl,_⟩
 . exact ⟨none,0,rfl,Or.inl rfl⟩
 . exact ⟨_,cap,rfl,EAt.of_own h1 (fun _ h=>h) (h2.moves hm)⟩
theorem Row.lt (h:Row base e size w v n ds):∀ k,v.ownBlock=some k->base<=k/\k<w.heap.size:=by
 obtain ⟨xs,h1,_⟩:=h;exact h1.lt
theorem Row.one {A:Nat->Prop} {cs:Array Value} {g:Nat} (hg:w.heap[g]? = some (.cells cs e (0,0))) (hb:base<=g) (hs:cs.size=size) (hd:zap w A ds cs.toList) (hA:∀ b,b<w.heap.size->A b->base<=b/\b≠g) :
 Row base e size w (.slice (some ⟨g,0,none⟩) 1 1) 1 ds:=by
 refine ⟨cs.toList,⟨by simp [hs],Or.inr ⟨g,1,cs,rfl,hb,hg,vaa _,by unfold maxLen;omega,by omega,by rw [Nat.one_mul,← hs];exact vaq (by simp)⟩⟩,hd.moves ⟨vaa _,fun b h1 h2=>⟨⟨(hA b h1 h2).1,fun h=>(hA b h1 h2).2 ?_⟩,rfl⟩⟩⟩;simp only [Value.ownBlock] at h;exact (vac h).symm
theorem Row.first {A:Nat->Prop} {cs:Array Value} (hd:zap w A ds cs.toList) (hA:∀ b,b<w.heap.size->A b->base<=b) (hb:base<=w.heap.size) (hs:cs.size=size) :
 Row base e size (w.alloc (.cells cs e)) (.slice (some ⟨w.heap.size,0,none⟩) 1 1) 1 ds:=by
 refine Row.one (heap_newP w _) hb hs (A:=fun b=>A b/\b<w.heap.size) (hd.moves ⟨by simp,fun b h1 h2=>⟨⟨h2,h1⟩,((Below.refl w.heap.size w).alloc (vaa _) (.cells cs e)).block b h1⟩⟩) ?_;intro b _ h2;exact ⟨hA b h2.2 h2.1,by omega⟩
end
theorem zbm {P:Program} {ops:Array Oper} {rest:List Oper} {o:Oper} {a:Act} {Q:Exit->Act->World->Prop} (hgd:o.guard=none) (s x:Operand) (t:TypeId)
 (ho:o.op = .call { callee:=.builtin .append,args:=#[s,x],argTypes:=#[t,t] }) (base:Nat) (e:TypeId) (z:Value) (size bytes:Nat) (ht:P.underlying t=some (.slice e))
 (hi:(P.info? e).map (fun i=>(i.zero,i.size,i.bytes))=some (some z,size,bytes)) (hzs:z.cells.size=size) (hsz:0<size) (w:World) (v:Value) (n:Nat) (ds nd:List D) (hs:a.eval s=v) (hrow:Row base e size w v n ds)
 (cs:Array Value) (H:Nat) (hH:H=w.heap.size) (hx:a.eval x = .slice (some ⟨H,0,none⟩) 1 1) (hcs:cs.size=size) (A:Nat->Prop) (hnd:zap w A nd cs.toList) (hA:∀ b,b<w.heap.size->A b->zdu base v b)
 (hn:n<=5000) (hby:bytes<=200) (hbase:base<=w.heap.size)
 (h:∀ g cap w',Row base e size w' (.slice (some ⟨g,0,none⟩) (n+1) cap) (n+1) (ds++nd)->Below base w w'->w.heap.size<w'.heap.size->wpList P ops Q rest (a.put o.dst (.slice (some ⟨g,0,none⟩) (n+1) cap)) w') :
 wpList P ops Q (o :: rest) a (w.alloc (.cells cs e)):=by
 obtain ⟨i0,hi,hz0,hz1,hz2⟩:=info_parts hi;obtain ⟨xs,hown,hds⟩:=hrow
 have hsize:(w.alloc (.cells cs e)).heap.size=w.heap.size+1:=by simp
 refine wpList_append_lies (w.alloc (.cells cs e)) hgd s x t ho base e i0 z size bytes ht hi hz0 hz1 hz2 hzs hsz v n xs hs (hown.alloc _) ⟨H,0,none⟩ 1 1 cs.toList hx (by simp [hcs]) ?_ hnd.one (by omega) (by unfold maxLen;omega) ?_ (by omega) _ rfl ?_
 . intro j u hj
   subst hH
   have:(⟨w.heap.size,0,none⟩:Addr).add j=⟨w.heap.size,j,none⟩:=by unfold Addr.add;split<;>simp_all
   rw [this,veb (heap_newP w _)];simpa using hj
 . have:(n+1)*bytes<=5001*200:=vdf (by omega) hby
   omega
 . intro g cap w' hown' hgrow hat hlt
   have hbel:Below base w w':=((Below.refl base w).alloc hbase _).grown hgrow (by omega) (fun k hk=>(hown.lt k hk).1);have hgz:=hgrow.size;refine h g cap w' ⟨xs++cs.toList,hown',?_⟩ hbel (by omega)
   have hmv:∀ A':Nat->Prop,(∀ b,b<w.heap.size->A' b->zdu base v b)->zae w A' w' (zdu base (.slice (some ⟨g,0,none⟩) (n+1) cap)):=by
    intro A' hA';refine ⟨by omega,fun b hb ha=>⟨⟨(hA' b hb ha).1,fun hgb=>?_⟩,?_⟩⟩
    . have hgb':g=b:=by simpa [Value.ownBlock] using hgb
      rcases hat with h1 | h1
      . exact (hA' b hb ha).2 (by rw [h1,hgb'])
      . omega
    . refine (hgrow.block b (by omega) (fun h=>(hA' b hb ha).2 h.symm)).trans ?_
      exact ((Below.refl w.heap.size w).alloc (vaa _) (.cells cs e)).block b hb
   exact (hds.moves (hmv _ (fun _ _ h=>h))).append (hnd.moves (hmv A hA))
theorem zbn {P:Program} {ops:Array Oper} {o:Oper} {a:Act} {K:Act->World->Prop} {Q:Exit->Act->World->Prop} {E:Prop} (hgd:o.guard=none) (s x:Operand) (t:TypeId)
 (ho:o.op = .call { callee:=.builtin .append,args:=#[s,x],argTypes:=#[t,t] }) (base:Nat) (e:TypeId) (z:Value) (size bytes:Nat) (ht:P.underlying t=some (.slice e))
 (hi:(P.info? e).map (fun i=>(i.zero,i.size,i.bytes))=some (some z,size,bytes)) (hzs:z.cells.size=size) (hsz:0<size) (w:World) (v:Value) (n:Nat) (ds nd:List D) (hs:a.eval s=v) (hrow:Row base e size w v n ds)
 (cs:Array Value) (H:Nat) (hH:H=w.heap.size) (hx:a.eval x = .slice (some ⟨H,0,none⟩) 1 1) (hcs:cs.size=size) (A:Nat->Prop) (hnd:zap w A nd cs.toList) (hA:∀ b,b<w.heap.size->A b->zdu base v b)
 (hn:n<=5000) (hby:bytes<=200) (hbase:base<=w.heap.size)
 (h:∀ g cap w',Row base e size w' (.slice (some ⟨g,0,none⟩) (n+1) cap) (n+1) (ds++nd)->Below base w w'->w.heap.size<w'.heap.size->K (a.put o.dst (.slice (some ⟨g,0,none⟩) (n+1) cap)) w') :
 if Region.wanted o (yielded ops a.tmps)=true then Oper.wp P o a (w.alloc (.cells cs e)) K Q else E:=by
 obtain ⟨i0,hi,hz0,hz1,hz2⟩:=info_parts hi;obtain ⟨xs,hown,hds⟩:=hrow
 have hsize:(w.alloc (.cells cs e)).heap.size=w.heap.size+1:=by simp
 refine step_append_lies (w.alloc (.cells cs e)) hgd s x t ho base e i0 z size bytes ht hi hz0 hz1 hz2 hzs hsz v n xs hs (hown.alloc _) ⟨H,0,none⟩ 1 1 cs.toList hx (by simp [hcs]) ?_ hnd.one (by omega) (by unfold maxLen;omega) ?_ (by omega) _ rfl ?_
 . intro j u hj
   subst hH
   have:(⟨w.heap.size,0,none⟩:Addr).add j=⟨w.heap.size,j,none⟩:=by unfold Addr.add;split<;>simp_all
   rw [this,veb (heap_newP w _)];simpa using hj
 . have:(n+1)*bytes<=5001*200:=vdf (by omega) hby
   omega
 . intro g cap w' hown' hgrow hat hlt
   have hbel:Below base w w':=((Below.refl base w).alloc hbase _).grown hgrow (by omega) (fun k hk=>(hown.lt k hk).1);have hgz:=hgrow.size;refine h g cap w' ⟨xs++cs.toList,hown',?_⟩ hbel (by omega)
   have hmv:∀ A':Nat->Prop,(∀ b,b<w.heap.size->A' b->zdu base v b)->zae w A' w' (zdu base (.slice (some ⟨g,0,none⟩) (n+1) cap)):=by
    intro A' hA';refine ⟨by omega,fun b hb ha=>⟨⟨(hA' b hb ha).1,fun hgb=>?_⟩,?_⟩⟩
    . have hgb':g=b:=by simpa [Value.ownBlock] using hgb
      rcases hat with h1 | h1
      . exact (hA' b hb ha).2 (by rw [h1,hgb'])
      . omega
    . refine (hgrow.block b (by omega) (fun h=>(hA' b hb ha).2 h.symm)).trans ?_
      exact ((Below.refl w.heap.size w).alloc (vaa _) (.cells cs e)).block b hb
   exact (hds.moves (hmv _ (fun _ _ h=>h))).append (hnd.moves (hmv A hA))
section
variable {R cap:Nat} {a:OA} {ts l l0:List Tk} {w w0 w':World}
theorem Rd.belowOf (h:Rd R a cap ts w l) (h0:Rd R a cap ts w0 l0) (hb:Below w0.heap.size w w'):Rd R a cap ts w' l:=by
 refine ⟨?_,?_,h.ne,h.len⟩
 . obtain ⟨k,h1,h2,h3⟩:=h.idx
   exact ⟨k,h1,h2,(hb.block R h0.lt).trans h3⟩
 . rcases h0.toks with h4 | ⟨b,off,ha,h4⟩
   . exact Or.inl h4
   . rcases h.toks with h5 | ⟨b',off',ha',h5⟩
     . exact Or.inl h5
     . have eq:b'=b:=by rw [ha] at ha';injection ha' with ha';injection ha' with e1 e2;exact e1.symm
       subst eq;exact Or.inr ⟨b',off',ha',h5.below hb h4.lt⟩
theorem Keeps.belowOf (h:Keeps R w0 w) (hb:Below w0.heap.size w w'):Keeps R w0 w':=
 ⟨hb.os.trans h.os,hb.tape.trans h.tape,hb.output.trans h.output,vbe h.size hb.size,fun k h1 h2=>(hb.block k h1).trans (h.block k h1 h2)⟩
end
def zg9 (R n:Nat) (w:World):Nat:=match w.cell? ⟨R,1,none⟩ with | some (.int _ k)=>n - k.toNat | _=>0
theorem Rd.left {R cap:Nat} {a:OA} {ts l:List Tk} {w:World} (h:Rd R a cap ts w l):zg9 R ts.length w=l.length:=by
 obtain ⟨k,hk,rfl,hb⟩:=h.idx;unfold zg9;rw [veb hb];simp
set_option maxHeartbeats 1600000
def z2e (A:Nat->Prop) (xs:List Ex) (w:World) (v:Value):Prop:=∃ a cap,v = .slice a xs.length cap/\EAt w A a xs.length (za9 xs)
structure ExC (R cap:Nat) (a:OA) (ts:List Tk) (f:Nat):Prop where
 expr:∀ (l:List Tk) (w:World),Rd R a cap ts w l->3*l.length+1<=f->Calls Tryz.prog 283 #[.pointer (some ⟨R,0,none⟩)] w (zdy R a cap ts w (zbu f l) (zf5 (w.heap.size<=·)))
 pair:∀ (l:List Tk) (w:World),Rd R a cap ts w l->3*l.length+2<=f->Calls Tryz.prog 293 #[.pointer (some ⟨R,0,none⟩)] w (zdy R a cap ts w (zfg f l) (zf5 (w.heap.size<=·)))
 args:∀ (l:List Tk) (w:World),Rd R a cap ts w l->3*l.length+2<=f->Calls Tryz.prog 295 #[.pointer (some ⟨R,0,none⟩)] w (zdy R a cap ts w (zeb f l) (z2e (w.heap.size<=·)))
theorem zvd (R cap:Nat) (a:OA) (ts:List Tk) (f:Nat) (IH:ExC R cap a ts f) (l:List Tk) (w:World) (h:Rd R a cap ts w l) (hf:3*l.length+2<=f+1) :
 Calls Tryz.prog 293 #[.pointer (some ⟨R,0,none⟩)] w (zdy R a cap ts w (zfg (f+1) l) (zf5 (w.heap.size<=·))):=by
 have HI:Hid (ExC R cap a ts f):=IH;have HR:Hid (Rd R a cap ts w l):=h;have hRw:=h.lt;clear IH h;go_enter Tryz.func293,Tryz.ntmps293;go_wp2_with fail;refine (HI.out.expr l _ (HR.out.alloc _) (by omega)).mono ?_;rintro e w1 ⟨HK1,⟨hn,rfl⟩ | ⟨x,l1,v,hn,rfl,⟨a1,c1,rfl,hx1,hx2,hx3⟩,HR1⟩⟩
 . exact ⟨rfl,((Keeps.refl R w).alloc _).trans HK1,Or.inl ⟨by unfold zfg;rw [hn],rfl⟩⟩
 have HN1:Hid (zbu f l=some (x,l1)):=hn
 have HX1:Hid (x.mod.size<=maxLen/\x.name.size<=maxLen/\EAt w1 ((w.heap.size+1)<=·) a1 x.args.length (za9 x.args)):=⟨hx1,hx2,by simpa using hx3⟩
 have HR1':Hid (Rd R a cap ts w1 l1):=HR1;have hlt1:=zcr _ _ _ _ hn;have hz1:=HK1.size;simp at hz1;clear hn hx1 hx2 hx3 HR1;have HK1':Hid (Keeps R w w1):=((Keeps.refl R w).alloc _).trans HK1;have HB1:Hid (w1.heap[w.heap.size]? = some (.cells #[.int .i64 0,.int .i64 0,.string ⟨#[]⟩,.string ⟨#[]⟩,.slice none 0 0] 174 (0,0))):=(HK1.block w.heap.size (by simp) (by omega)).trans (heap_newP _ _);clear HK1;go_wp2_with fail;refine (zvb _).mono ?_;rintro e w2 ⟨b,rfl,hb1,hb2,hbc,HB2⟩;have HK2:Hid (Keeps R w1 w2):=((Keeps.refl R w1).alloc _).later HB2;have HR2:Hid (Rd R a cap ts w2 l1):=(HR1'.out.alloc _).later HB2;have HC2:Hid (w2.heap[w1.heap.size]? = some (.cells #[.int .i64 x.op,.int .i64 x.n,.string x.mod,.string x.name,.slice a1 x.args.length c1] 174 (0,0))):=(HB2.block w1.heap.size (by simp)).trans (heap_newP _ _);have hz2:=HB2.size
 simp at hz2 hb1;clear HB2;go_wp2_with fail;refine (zxl R cap b a ts l1 w2 HR2.out hb2 (by omega) hbc).mono ?_;rintro e w3 ⟨HK3,⟨ho,rfl⟩ | ⟨k,c,ho,hk9,hki,rfl,HR3⟩⟩
 . exact ⟨rfl,(HK1'.out.trans HK2.out).trans HK3,Or.inl ⟨by unfold zfg;rw [HN1.out];simp only [];rw [ho],rfl⟩⟩
 have hz3:=HK3.size;have HM:Hid (ztw l1=some k):=ho;have HKI:Hid (Lib.indexByte opSigns.data.toList c=k):=hki;have hl3:=zhz (ztz ho);have HK3':Hid (Keeps R w w3):=(HK1'.out.trans HK2.out).trans HK3;have HC3:Hid (w3.heap[w1.heap.size]? = some (.cells #[.int .i64 x.op,.int .i64 x.n,.string x.mod,.string x.name,.slice a1 x.args.length c1] 174 (0,0))):=(HK3.block w1.heap.size (by omega) (by omega)).trans HC2.out;have HV3:Hid (zae w1 (w.heap.size+1<=·) w3 (w.heap.size+1<=·)):=((zae.refl w1 _).keeps HK2.out (by intro b;omega)).keeps HK3 (by intro b;omega);clear ho hbc HC2 HR2 hki;have HR3':Hid (Rd R a cap ts w3 l1.tail):=HR3;clear HR3;go_wp2_with fail;refine (HI.out.expr l1.tail w3 HR3'.out (by omega)).mono ?_;rintro e w4 ⟨HK4,⟨hn,rfl⟩ | ⟨y,l4,v,hn,rfl,⟨a4,c4,rfl,hy1,hy2,hy3⟩,HR4⟩⟩
 . exact ⟨rfl,HK3'.out.trans HK4,Or.inl ⟨by unfold zfg;rw [HN1.out];simp only [];rw [HM.out];simp only [];rw [hn],rfl⟩⟩
 have HN4:Hid (zbu f l1.tail=some (y,l4)):=hn
 have HX4:Hid (y.mod.size<=maxLen/\y.name.size<=maxLen/\EAt w4 (w3.heap.size<=·) a4 y.args.length (za9 y.args)):=⟨hy1,hy2,hy3⟩
 have HR4':Hid (Rd R a cap ts w4 l4):=HR4;have HK4':Hid (Keeps R w w4):=HK3'.out.trans HK4;have HV4:Hid (zae w1 (w.heap.size+1<=·) w4 (w.heap.size+1<=·)):=HV3.out.keeps HK4 (by intro b;omega);have HC4:Hid (w4.heap[w1.heap.size]? = some (.cells #[.int .i64 x.op,.int .i64 x.n,.string x.mod,.string x.name,.slice a1 x.args.length c1] 174 (0,0))):=(HK4.block w1.heap.size (by omega) (by omega)).trans HC3.out;have hz4:=HK4.size;have HB4:Hid (w4.heap[w.heap.size]? = some (.cells #[.int .i64 0,.int .i64 0,.string ⟨#[]⟩,.string ⟨#[]⟩,.slice none 0 0] 174 (0,0))):=(HK4.block w.heap.size (by omega) (by omega)).trans ((HK3.block w.heap.size (by omega) (by omega)).trans ((HK2.out.block w.heap.size (by omega) (by omega)).trans HB1.out));clear hn hy1 hy2 hy3 HR4 HK4 HC3 HV3 HK3' HR3';go_wp2_with fail;refine (ze3 R cap _ a ts l4 tRp _ (by simp) (HR4'.out.alloc _) (by decide)).mono ?_
 rintro e w5 ⟨HK5,⟨hs5,rfl⟩ | ⟨hs5,rfl,HR5⟩⟩
 . exact ⟨rfl,(HK4'.out.alloc _).trans HK5,Or.inl ⟨by unfold zfg;rw [HN1.out];simp only [];rw [HM.out];simp only [];rw [HN4.out];simp only [];rw [if_neg (by simp [hs5])],rfl⟩⟩
 have HP:Hid (zfg (f+1) l=some (.mk (7+k) 0 ⟨#[]⟩ ⟨#[]⟩ [x,y],l4.tail)):=by show zfg (f+1) l=_;unfold zfg;rw [HN1.out];simp only [];rw [HM.out];simp only [];rw [HN4.out];simp only [];rw [if_pos hs5]
 have hz5:=HK5.size;simp at hz5;have HC5:Hid (w5.heap[w1.heap.size]? = some (.cells #[.int .i64 x.op,.int .i64 x.n,.string x.mod,.string x.name,.slice a1 x.args.length c1] 174 (0,0))):=(HK5.block w1.heap.size (by simp;omega) (by omega)).trans (zad HC4.out);have HD5:Hid (w5.heap[w4.heap.size]? = some (.cells #[.int .i64 y.op,.int .i64 y.n,.string y.mod,.string y.name,.slice a4 y.args.length c4] 174 (0,0))):=(HK5.block w4.heap.size (by simp) (by omega)).trans (heap_newP _ _);have HB5:Hid (w5.heap[w.heap.size]? = some (.cells #[.int .i64 0,.int .i64 0,.string ⟨#[]⟩,.string ⟨#[]⟩,.slice none 0 0] 174 (0,0))):=(HK5.block w.heap.size (by simp;omega) (by omega)).trans (zad HB4.out);obtain ⟨f0,f1,f2,f3,f4,f5⟩:=zac HC5.out;obtain ⟨g0,g1,g2,g3,g4,g5⟩:=zac HD5.out;obtain ⟨h0,h1,h2,h3,h4,h5⟩:=zac HB5.out;have HV5:Hid (zae w1 (w.heap.size+1<=·) w5 (w.heap.size+1<=·)):=(HV4.out.alloc _).keeps HK5 (by intro b;omega)
 have HW5:Hid (zae w4 (w3.heap.size<=·) w5 (w3.heap.size<=·)):=((zae.refl w4 _).alloc _).keeps HK5 (by intro b;omega);have HR5':Hid (Rd R a cap ts w5 l4.tail):=HR5;have HK5':Hid (Keeps R w w5):=(HK4'.out.alloc _).trans HK5;clear HK5 HR5 hs5 HC4 HV4 HR4'
 have HIX:Hid (∀ w:World,Calls Tryz.prog 299 #[.string opSigns,.string ⟨#[c]⟩] w fun e w'=>e = .returned (.int .i64 k)/\w'=w):=fun w=>by rw [← HKI.out];exact Tryz.strings_Index_one opSigns c w
 have hq0:w.heap.size<w5.heap.size:=by omega
 have hq1:w1.heap.size<w5.heap.size:=by omega
 have hq4:w4.heap.size<w5.heap.size:=by omega
 clear HKI
 have hwr:IntKind.i64.wrap (7+(k:Int))=7+k:=by simp only [IntKind.wrap,IntKind.bits,IntKind.signed];simp;omega
 have FIN:∀ W:World,W=(((((w5.setCell ⟨w.heap.size,0,none⟩ (.int .i64 (7+k))).setCell ⟨w.heap.size,1,none⟩ (.int .i64 0)).setCell ⟨w.heap.size,2,none⟩ (.string ⟨#[]⟩)).setCell ⟨w.heap.size,3,none⟩ (.string ⟨#[]⟩)).setCell ⟨w.heap.size,4,none⟩ (.slice (some ⟨w5.heap.size,0,none⟩) 2 2)).alloc (.cells #[.int .i64 x.op,.int .i64 x.n,.string x.mod,.string x.name,.slice a1 x.args.length c1,.int .i64 y.op,.int .i64 y.n,.string y.mod,.string y.name,.slice a4 y.args.length c4] 174)->
  zdy R a cap ts w (zfg (f+1) l) (zf5 (w.heap.size<=·)) (.returned (.agg #[.int .i64 (7+k),.int .i64 0,.string ⟨#[]⟩,.string ⟨#[]⟩,.slice (some ⟨w5.heap.size,0,none⟩) 2 2])) W.drew:=by
  rintro W rfl;refine ⟨Keeps.drew (Keeps.alloc (((((HK5'.out.set (vaa _) _).set (vaa _) _).set (vaa _) _).set (vaa _) _).set (vaa _) _) _),Or.inr ⟨_,_,_,HP.out,rfl,⟨some ⟨w5.heap.size,0,none⟩,2,rfl,vad _,vad _,?_⟩,Rd.drew (Rd.alloc (((((HR5'.out.setAbove HR.out (vaa _) _).setAbove HR.out (vaa _) _).setAbove HR.out (vaa _) _).setAbove HR.out (vaa _) _).setAbove HR.out (vaa _) _) _)⟩⟩;refine z09 (t:=174) (cap:=c1) (dap:=c4) HX1.out HX4.out (zae.drew (zae.alloc (zae.set (zae.set (zae.set (zae.set (zae.set (HV5.out.to (by omega)) ?_ _) ?_ _) ?_ _) ?_ _) ?_ _) _)) (zae.drew (zae.alloc (zae.set (zae.set (zae.set (zae.set (zae.set (HW5.out.to (by omega)) ?_ _) ?_ _) ?_ _) ?_ _) ?_ _) _)) ?_ (by omega)
  all_goals first | (intro b;simp only [];omega) | skip
  have e:=heap_newP (((((w5.setCell ⟨w.heap.size,0,none⟩ (.int .i64 (7+k))).setCell ⟨w.heap.size,1,none⟩ (.int .i64 0)).setCell ⟨w.heap.size,2,none⟩ (.string ⟨#[]⟩)).setCell ⟨w.heap.size,3,none⟩ (.string ⟨#[]⟩)).setCell ⟨w.heap.size,4,none⟩ (.slice (some ⟨w5.heap.size,0,none⟩) 2 2)) (.cells #[.int .i64 x.op,.int .i64 x.n,.string x.mod,.string x.name,.slice a1 x.args.length c1,.int .i64 y.op,.int .i64 y.n,.string y.mod,.string y.name,.slice a4 y.args.length c4] 174);simp only [vam] at e;exact e
 have HFIN:Hid _:=FIN;clear FIN;go_wp2_with fail
 go_region_with (go_at_call 299;refine (HIX.out _).mono ?_;rintro e w' ⟨rfl,rfl⟩)
 all_goals go_wp2_with fail
 all_goals refine bodyPost_ret (v:=.agg #[.int .i64 (7+k),.int .i64 0,.string ⟨#[]⟩,.string ⟨#[]⟩,.slice (some ⟨w5.heap.size,0,none⟩) 2 2]) (by simp [results,Tryz.results293,go_sem,h0,h1,h2,h3,h4,hq0]) rfl ?_
 all_goals exact HFIN.out _ rfl
theorem z1a (l:List Tk) (t u:ByteArray):zio l [t,u]=if skB l t then some t else if skB l u then some u else none:=by
 unfold zio;rw [vcm,vcm];cases skB l t<;>cases skB l u<;>rfl
theorem z1b (R cap n:Nat) (a:OA) (ts l:List Tk) (t u:ByteArray) (w:World) (hn:n=w.heap.size) (h:Rd R a cap ts w l) (ht:0<t.size) (hu:0<u.size) :
 Calls Tryz.prog 195 #[.pointer (some ⟨R,0,none⟩),.slice (some ⟨n,0,none⟩) 2 2] (w.alloc (.cells #[.string t,.string u] 9)) fun e w'=>Keeps R w w'/\((skB l t=false/\skB l u=false/\e = .panicked zak)\/(skB l t=true/\e = .returned (.string t)/\Rd R a cap ts w' l.tail)\/(skB l t=false/\skB l u=true/\e = .returned (.string u)/\Rd R a cap ts w' l.tail)):=by
 have hlt:=h.lt;subst hn;refine (zi0 R cap w.heap.size 2 a ts l [t,u] _ (h.alloc _) (by simp) (by omega) (by simp) (fun i hi=>?_) (fun i hi=>?_)).mono ?_
 . obtain rfl | rfl:i=0\/i=1:=by simp at hi;omega
   all_goals simp
 . obtain rfl | rfl:i=0\/i=1:=by simp at hi;omega
   . exact ht
   . exact hu
 . rintro e w' ⟨hk,hr⟩
   refine ⟨((Keeps.refl R w).alloc _).trans hk,?_⟩;rw [z1a] at hr
   cases hs:skB l t<;>cases hs2:skB l u<;>rw [hs,hs2] at hr<;>simp only [vcs,if_false,if_true,Option.map_none,Option.map_some] at hr
   . rcases hr with ⟨_,rfl⟩ | ⟨x,l',v,hr,_⟩
     . exact Or.inl ⟨rfl,rfl,rfl⟩
     . cases hr
   . rcases hr with ⟨hr,_⟩ | ⟨x,l',v,hr,rfl,rfl,hR⟩
     . cases hr
     . obtain ⟨rfl,rfl⟩:=vak (vac hr)
       exact Or.inr (Or.inr ⟨rfl,rfl,rfl,hR⟩)
   all_goals
    rcases hr with ⟨hr,_⟩ | ⟨x,l',v,hr,rfl,rfl,hR⟩
    . cases hr
    . obtain ⟨rfl,rfl⟩:=vak (vac hr)
      exact Or.inr (Or.inl ⟨rfl,rfl,hR⟩)
theorem zve (R cap:Nat) (a:OA) (ts:List Tk) (f:Nat) (IH:∀ g,g<=f->ExC R cap a ts g) (l:List Tk) (w:World) (h:Rd R a cap ts w l) (hf:3*l.length+2<=f+1) :
 Calls Tryz.prog 295 #[.pointer (some ⟨R,0,none⟩)] w (zdy R a cap ts w (zeb (f+1) l) (z2e (w.heap.size<=·))):=by
 have HI:Hid (∀ g,g<=f->ExC R cap a ts g):=IH;have HR:Hid (Rd R a cap ts w l):=h;have hRw:=h.lt
 have hlts:l.length<=4096:=by
  obtain ⟨k,_,rfl,_⟩:=h.idx;have:=h.len
  rw [vbp];omega
 clear IH h;go_enter Tryz.func295,Tryz.ntmps295;go_wp2_with fail
 by_cases hs:skB l tRp=true
 . refine (zbr R cap a ts l tRp w (by decide) HR.out hs).mono ?_
   rintro e w1 ⟨rfl,HR1,HK1⟩;go_wp2_with fail;go_ret;exact ⟨HK1,Or.inr ⟨[],l.tail,_,by unfold zeb;rw [if_pos hs],rfl,⟨none,0,rfl,Or.inl rfl⟩,HR1⟩⟩
 have hs':skB l tRp=false:=by simpa using hs
 refine (zb8 R cap a ts l tRp w HR.out hs').mono ?_;rintro e w1 ⟨rfl,HR1,HK1⟩;have HR1':Hid (Rd R a cap ts w1 l):=HR1;have HK1':Hid (Keeps R w w1):=HK1;have hz1:=HK1.size;clear HR1 HK1;go_wp2_with fail;refine ((HI.out f (vaa _)).expr l w1 HR1'.out (by omega)).mono ?_;rintro e w2 ⟨HK2,⟨hn,rfl⟩ | ⟨x,l2,v,hn,rfl,⟨a2,c2,rfl,hx1,hx2,hx3⟩,HR2⟩⟩
 . exact ⟨rfl,HK1'.out.trans HK2,Or.inl ⟨by unfold zeb;rw [if_neg hs,hn],rfl⟩⟩
 have hl2:=zcr _ _ _ _ hn
 have HP:Hid (zeb (f+1) l=zf3 f [x] l2):=by show zeb (f+1) l=_;unfold zeb;rw [if_neg hs,hn]
 have HR2':Hid (Rd R a cap ts w2 l2):=HR2;have HK2':Hid (Keeps R w w2):=HK1'.out.trans HK2;have HX:Hid (zap w2 (w1.heap.size<=·) x.ds (ze4 x a2 c2)):=ze5 hx1 hx2 hx3;have hz2:=HK2.size;clear hn HR2 HK2 hx1 hx2 hx3 hs hs' HR1' HK1';go_wp2_with fail
 go_loopw [3] (fun v wr=>∃ (g:Nat) (acc:List Ex) (l':List Tk),g<=f/\zeb (f+1) l=zf3 g acc l'/\3*l'.length+3<=g/\acc.length+l'.length<=l.length/\Row w.heap.size 174 5 wr v acc.length (za9 acc)/\Rd R a cap ts wr l'/\Keeps R w wr) (fun _ wr=>zg9 R ts.length wr)
 case atStart=>
  refine ⟨f,[x],l2,vaa _,HP.out,by omega,by simp;omega,?_,HR2'.out.alloc _,HK2'.out.alloc _⟩;rw [zi3];exact Row.first (cs:=#[.int .i64 x.op,.int .i64 x.n,.string x.mod,.string x.name,.slice a2 x.args.length c2]) HX.out (fun b _ h=>by omega) (by omega) rfl
 case round=>
  obtain ⟨g,acc,l',hg,hpm,hlen,hacc,hrow,hrd,hke⟩:=hrel;have HG:Hid (zeb (f+1) l=zf3 g acc l'):=hpm;have HO:Hid (Row w.heap.size 174 5 wr u3 acc.length (za9 acc)):=hrow;have HD:Hid (Rd R a cap ts wr l'):=hrd;have HE:Hid (Keeps R w wr):=hke;have hzr:=hke.size
  obtain ⟨g,rfl⟩:∃ g',g=g'+1:=⟨g - 1,by omega⟩
  clear hpm hrow hrd hke HP HX;go_wp2_with fail;refine (z1b R cap _ a ts l' zw1 tRp _ (by simp) HD.out (by decide) (by decide)).mono ?_;rintro e w3 ⟨HK3,⟨h1,h2,rfl⟩ | ⟨h1,rfl,HR3⟩ | ⟨h1,h2,rfl,HR3⟩⟩
  . exact ⟨rfl,HE.out.trans HK3,Or.inl ⟨by rw [HG.out];unfold zf3;rw [if_neg (by simp [h1]),if_neg (by simp [h2])],rfl⟩⟩
  . have hl3:=zam (by decide) h1
    have hz3:=HK3.size;go_wp2_with fail;refine ((HI.out g (by omega)).expr l'.tail w3 HR3 (by omega)).mono ?_;rintro e w4 ⟨HK4,⟨hn,rfl⟩ | ⟨y,l4,v,hn,rfl,⟨a4,c4,rfl,hx1,hx2,hx3⟩,HR4⟩⟩
    . exact ⟨rfl,(HE.out.trans HK3).trans HK4,Or.inl ⟨by rw [HG.out];unfold zf3;rw [if_pos h1,hn],rfl⟩⟩
    have hl4:=zcr _ _ _ _ hn
    have HP:Hid (zeb (f+1) l=zf3 g (acc++[y]) l4):=by show zeb (f+1) l=_;rw [HG.out];unfold zf3;rw [if_pos h1,hn];cases g<;>rfl
    have HX4:Hid (zap w4 (w3.heap.size<=·) y.ds (ze4 y a4 c4)):=ze5 hx1 hx2 hx3;have HR4':Hid (Rd R a cap ts w4 l4):=HR4;have HK4':Hid (Keeps R w w4):=(HE.out.trans HK3).trans HK4;have HO4:Hid (Row w.heap.size 174 5 w4 u3 acc.length (za9 acc)):=(HO.out.keeps HK3 hRw).keeps HK4 hRw;have hz4:=HK4.size
    have HL:Hid (∀ k,u3.ownBlock=some k->k<w3.heap.size):=fun k hk=>((HO.out.keeps HK3 hRw).lt k hk).2
    have hle:=HD.out.left;clear hn HR3 HR4 HK3 HK4 hx1 hx2 hx3
    go_wp2_with (at_builtin;refine zbm rfl (.tmp 13) (.tmp 16) 172 rfl w.heap.size 174 _ 5 72 Tryz.underlying172 Tryz.infoP80 rfl (by decide) w4 u3 acc.length (za9 acc) y.ds rfl HO4.out _ _ rfl rfl rfl (w3.heap.size<=·) HX4.out ?_ (by omega) (by decide) (by omega) ?_)
    . intro b _ hb
      exact ⟨by omega,fun h=>by have:=HL.out b h;omega⟩
    . intro g5 c5 w5 HO5 HB5 hz5
      have HO5':Hid (Row w.heap.size 174 5 w5 (.slice (some ⟨g5,0,none⟩) (acc.length+1) c5) (acc.length+1) (za9 acc++y.ds)):=HO5;have HR5:Hid (Rd R a cap ts w5 l4):=HR4'.out.belowOf HR.out HB5;have HK5:Hid (Keeps R w w5):=HK4'.out.belowOf HB5;have hl5:=HR5.out.left;clear HO5 HB5 HO4 HR4' HK4' HX4;go_wp2_with fail;go_roundw
      case rel=>exact ⟨g,acc++[y],l4,by omega,HP.out,by omega,by simp;omega,by rw [zgp,zi3,vao];exact HO5'.out,HR5.out,HK5.out⟩
      case measure=>rw [hl5,hle];omega
  . have HP:Hid (zeb (f+1) l=some (acc,l'.tail)):=by show zeb (f+1) l=_;rw [HG.out];unfold zf3;rw [if_neg (by simp [h1]),if_pos h2]
    have HO3:Hid (Row w.heap.size 174 5 w3 u3 acc.length (za9 acc)):=HO.out.keeps HK3 hRw;go_wp2_with fail;go_ret;exact ⟨HE.out.trans HK3,Or.inr ⟨acc,l'.tail,_,HP.out,rfl,HO3.out.slice,HR3⟩⟩
end Go.Proofs.YtndkhgakfodldaaGreatDoor
