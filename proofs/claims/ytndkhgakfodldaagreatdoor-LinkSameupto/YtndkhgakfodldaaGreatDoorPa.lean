import Derived.Test.YtndkhgakfodldaaGreatDoorTd
import Derived.BigQuiet
set_option maxRecDepth 100000
set_option maxHeartbeats 3200000
open Go.Proofs.Tryz
namespace Go.Proofs.YtndkhgakfodldaaGreatDoor
open Go.RowKit
theorem Qr{P:Prop}(h:P:=by
 (try simp only [Act.put,j1,k7,lH])
 refine wpAnyH_ready (rs:=[16]) (by kernel_rfl) Ob ?_;refine AllReadyH.cons rfl ?_ AllReadyH.nil;intro S aO;go_simp
 go_wp2_with (go_at_call 147;refine (aD _ ak).mono ?_;rintro e bw ⟨rfl,n⟩)
 have af:=hid (dp ak n);refine aO.out _ _ (aQ _ af) (fun d=>?_);clear aO S n
 (try simp only [Act.put,j1,k7,lH])
 refine ft 17 (.pointer (some ⟨al,D*3,none⟩)) rfl (by kernel_rfl) (fun _ _ _ h=>h) (fun M ai=>by go_simp) d ?_;refine ft 18 (.pointer (some ⟨al,D*3+1,none⟩)) rfl (by kernel_rfl) (fun _ _ _ h=>h) (fun M ai=>by kernel_rfl) d ?_;have b3:=b _ af;have bb:=b3.1;have bT:=b3.2.1;have bR:=b3.2.2.1;clear b3;refine wpAnyH_ready (rs:=[19]) (by kernel_rfl) Ob ?_;refine AllReadyH.cons rfl ?_ AllReadyH.nil;intro S aO;go_simp;refine aO.out _ _ (aa _ ⟨(eh (p:=⟨al,D*3+1,none⟩) (by show w.heap.size≠al;omega) _).trans (af.block _ bn),(eh (p:=⟨al,D*3+1,none⟩) (by show wr.heap.size≠al;omega) _).trans (af.block _ bB)⟩) (fun d=>?_);clear aO S bb bT bR;refine wpAnyH_done (by kernel_rfl) ?_ _;clear d;go_simp;have bm:=af.size;clear L aD aQ aa;go_wp2_with fail;go_roundw
 case rel=>exact ⟨j+1,N7,Ou,by rw [bz.out,aM.out,aA];exact (b _ af).2.2.2 z,(ag.trans ((HbX.trans (af.mono N7)).mono N7)).setCell (p:=⟨al,D*3+1,none⟩) (by show w.heap.size+1<=al;omega) _⟩
 case measure=>simp [intOf];omega):P:=h
theorem Qs{P:Prop}(h:P:=by
 go_enter func133,ntmps133;go_wp2_with fail
 go_region
 go_wp2_with fail;go_ret;exact ⟨ret_bool z.symm,Od⟩):P:=h
theorem Rg{P:Prop}(h:P:=by
 go_enter func292,ntmps292;go_wp2_with fail;go_ret2;exact ⟨PG,rfl⟩):P:=h
theorem Rt{P:Prop}(h:P:=by
 rw [aA] at A z;clear aA;go_enter func278,ntmps278;go_wp2_with fail;refine (A _).mono ?_;rintro e G ⟨rfl,rfl⟩;simp only [reckV];go_wp2_with fail;go_ret2;exact ⟨OL,rfl⟩):P:=h
theorem RN{P:Prop}(h:P:=by
 go_enter func278,ntmps278
 go_wp2_with (go_at_call 227;refine (qg _ _).mono ?_;rintro e G ⟨rfl,rfl⟩)
 go_ret2;exact ⟨rfl,rfl⟩):P:=h
theorem RT{P:Prop}(h:P:=by
 go_enter func278,ntmps278;go_wp2_with fail;go_ret2;exact ⟨rfl,rfl⟩):P:=h
theorem R7{P:Prop}(h:P:=by
 obtain ⟨V,av,rfl,hea⟩:=P.slice;have M:=hid hea;clear hea hbx;go_wp2_with fail;go_ret2;refine ⟨OP,ag⟩):P:=h
variable {A A':Nat->Prop} {P:Program} {Y:Exit->Act->World->Prop} {R b q g k lo:Nat} {a:OA} {cs:Array Value} {l L d:List Tk} {o:Oper} {ops:Array Oper} {p:Addr} {t:TypeId} {w G dk w2:World} {x:eA} {af a4 am a5 ax:Value} {α:Type}
structure dK (R:Nat) (w w':World):Prop where
 os:w'.os=w.os
 tape:w'.tape=w.tape
 output:w'.output=w.output
 size:w.heap.size<=w'.heap.size
 block:∀ k,k<w.heap.size->k≠R->w'.heap[k]? = w.heap[k]?
theorem dK.refl (R:Nat) (w:World):dK R w w:=⟨rfl,rfl,rfl,dA _,fun _ _ _=>rfl⟩
theorem dK.trans {a b c:World} (h:dK R a b) (k:dK R b c):dK R a c:=
 ⟨k.os.trans h.os,k.tape.trans h.tape,k.output.trans h.output,fZ h.size k.size,fun i F J=>(k.block i (e4 F h.size) J).trans (h.block i F J)⟩
theorem dK.of_below (h:dm w G) (R:Nat):dK R w G:=⟨h.os,h.tape,h.output,h.size,fun k F _=>h.block k F⟩
theorem dK.setCell (R:Nat) (w:World) (j:Nat) (u:Value):dK R w (w.setCell (dj R j) u):=
 ⟨rfl,rfl,rfl,by rw [hk];exact dA _,fun k _ J=>Below.heap_setCell w (dj R j) u k J⟩
theorem dK.cell (h:dK R w G) {C:Nat} (F:b<w.heap.size) (J:b≠R):G.cell? (dj b C)=w.cell? (dj b C):=
 lY (w:=w) (h.block b F J)
theorem dK.later (h:dK R w dk) (I:dm dk w2):dK R w w2:=h.trans (dK.of_below I R)
theorem dK.alloc (h:dK R w dk) (o:Obj):dK R w (dk.alloc o):=h.later ((Below.refl _ _).alloc (dA _) o)
theorem dK.own (h:dK R w dk) (j:Nat) (u:Value):dK R w (dk.setCell (dj R j) u):=h.trans (dK.setCell R dk j u)
theorem dK.set (h:dK R w dk) (aA:w.heap.size<=p.block) (u:Value):dK R w (dk.setCell p u):=
 ⟨h.os,h.tape,h.output,by rw [hk];exact h.size,fun k F J=>(Below.heap_setCell dk p u k N7).trans (h.block k F J)⟩
structure dH (R:Nat) (a:OA) (cap:Nat) (ts:List Tk) (w:World) (l:List Tk):Prop where
 idx:∃ k:Nat,k<=ts.length/\l=ts.drop k/\w.heap[R]? = some (.cells #[.slice a ts.length cap,di k] 239 (0,0))
 toks:i8 w a ts
 ne:ts=[]\/∀ b off,a=some (dj b off)->b≠R
 len:ts.length<=4096
theorem i8.keeps (h:i8 w a d) (N:dK R w G) (aX:d=[]\/∀ b C,a=some (dj b C)->b≠R):i8 G a d:=by
 rcases aX with ab | aX
 . exact Or.inl ab
 rcases h with h | ⟨b,C,a7,h⟩
 . exact Or.inl h
 . have I:=aX b C a7
   have X:=h.lt;exact Or.inr ⟨b,C,a7,e4 X N.size,fun i V=>(N.cell X I).trans (h.kind i V),fun i V=>(N.cell X I).trans (h.num i V),fun i V=>(N.cell X I).trans (h.text i V),h.fits⟩
section
variable {R q:Nat} {a:OA} {d l:List Tk} {w G:World}
theorem dH.lt (h:dH R a q d w l):R<w.heap.size:=by obtain ⟨k,_,_,I⟩:=h.idx;exact lt_of_heap I
theorem dH.later (h:dH R a q d w l) (I:dm w G):dH R a q d G l:=by
 obtain ⟨k,F,J,U⟩:=h.idx;exact ⟨⟨k,F,J,(I.block R (lt_of_heap U)).trans U⟩,h.toks.later I,h.ne,h.len⟩
theorem dH.at_ {j:Nat} (h:dH R a q d w l) (N:dK R w G) (a2:j<=d.length) (X:L=d.drop j) (I:G.heap[R]? = some (.cells #[.slice a d.length q,di j] 239 (0,0))):dH R a q d G L:=
 ⟨⟨j,a2,X,I⟩,h.toks.keeps N h.ne,h.ne,h.len⟩
theorem dH.still (h:dH R a q d w l) (N:dK R w G) (I:G.heap[R]? = w.heap[R]?):dH R a q d G l:=by
 obtain ⟨k,F,J,U⟩:=h.idx;exact ⟨⟨k,F,J,I.trans U⟩,h.toks.keeps N h.ne,h.ne,h.len⟩
theorem dH.set (h:dH R a q d w l) (aA:p.block≠R) (ax:∀ b C,a=some (dj b C)->p.block≠b) (u:Value):dH R a q d (w.setCell p u) l:=by
 obtain ⟨k,F,J,U⟩:=h.idx;refine ⟨⟨k,F,J,(Below.heap_setCell w p u R (Ne.symm aA)).trans U⟩,?_,h.ne,h.len⟩
 rcases h.toks with aa | ⟨b,C,a7,aa⟩
 . exact Or.inl aa
 . have e:∀ j,(w.setCell p u).cell? (dj b j)=w.cell? (dj b j):=fun j=>lY (w:=w) (Below.heap_setCell w p u b (Ne.symm (ax b C a7)))
   exact Or.inr ⟨b,C,a7,by rw [hk];exact aa.lt,fun i V=>(e _).trans (aa.kind i V),fun i V=>(e _).trans (aa.num i V),fun i V=>(e _).trans (aa.text i V),aa.fits⟩
theorem dH.alloc (h:dH R a q d w l) (o:Obj):dH R a q d (w.alloc o) l:=h.later ((Below.refl _ _).alloc (dA _) o)
theorem dH.setAbove {w0:World} {g:List Tk} (h:dH R a q d w l) (ab:dH R a q d w0 g) (aA:w0.heap.size<=p.block) (u:Value):dH R a q d (w.setCell p u) l:=by
 refine ⟨?_,?_,h.ne,h.len⟩
 . obtain ⟨k,F,J,U⟩:=h.idx
   exact ⟨k,F,J,(Below.heap_setCell w p u R (by have:=lt_of_heap ab.idx.choose_spec.2.2;omega)).trans U⟩
 rcases ab.toks with aa | ⟨b,C,a7,aa⟩
 . exact Or.inl aa
 . rcases h.toks with aB | ⟨aL,c0,o,aB⟩
   . exact Or.inl aB
   . have c:aL=b:=by rw [a7] at o;injection o with o;injection o with aJ aI;exact aJ.symm
     subst c
     have e:∀ j,(w.setCell p u).cell? (dj aL j)=w.cell? (dj aL j):=fun j=>lY (w:=w) (Below.heap_setCell w p u aL (by have:=aa.lt;omega))
     exact Or.inr ⟨aL,c0,o,by rw [hk];exact aB.lt,fun i V=>(e _).trans (aB.kind i V),fun i V=>(e _).trans (aB.num i V),fun i V=>(e _).trans (aB.text i V),aB.fits⟩
theorem dH.adv (h:dH R a q d w (d.drop k)) (N:k<d.length) (I:w.heap[R]? = some (.cells #[.slice a d.length q,di k] 239 (0,0))) :
 dH R a q d (w.setCell (dj R 1) (di ((k:Int)+1))) (d.drop (k+1)):=by
 refine ⟨⟨k+1,N7,rfl,?_⟩,h.toks.keeps (dK.setCell R w 1 _) h.ne,h.ne,h.len⟩;simp [World.setCell,Array.getElem?_modify,I]
end
theorem Bv (R q n:Nat) (a:OA) (d l:List Tk) (w:World) (Z:n<=1) (h:dH R a q d w l) :
 dw 252 #[dF R 0,di n] w fun e G=>e = .returned (Tk.val (l.getD n j4))/\dm w G:=by
 obtain ⟨k,N,rfl,I⟩:=h.idx
 have O:w.cell? (dj R 0)=some (.slice a d.length q):=by rw [eZ I];rfl
 have aO:w.cell? (dj R 1)=some (di k):=by rw [eZ I];rfl
 have ac:=h.lt;have b1:=h.len
 by_cases c:k+n<d.length
 . have bh:Hid (Tk.val ((d.drop k).getD n j4) = .agg #[di d[k+n].kind,di d[k+n].n,.string d[k+n].text]):=by
    show Tk.val _=_;rw [fV,ew (by rw [qB];omega),gE,xn]
    rfl
   obtain ⟨b,C,rfl,H⟩:=h.toks.place c;have x:=H.kind (k+n) c;have aJ:=H.num (k+n) c;have V:=H.text (k+n) c;have bb:=H.lt;clear H h I;go_enter func252,ntmps252;go_wp2_with fail
   go_quiet ((fail))
   go_wp2_with fail
   go_region
   go_wp2_with fail;refine bodyPost_ret (v:=.agg #[di d[k+n].kind,di d[k+n].n,.string d[k+n].text]) (by simp [results,results252,go_sem]) rfl ⟨by rw [bh.out],?_⟩;exact Rm
 . have bh:Hid (Tk.val ((d.drop k).getD n j4) = .agg #[di 0,di 0,.string ⟨#[]⟩]):=by
    show Tk.val _=_;rw [fV,mL (by rw [qB];omega)]
    rfl
   clear h I;go_enter func252,ntmps252;go_wp2_with fail
   go_quiet ((fail))
   go_wp2_with fail;refine bodyPost_ret (v:=.agg #[di 0,di 0,.string ⟨#[]⟩]) (by simp [results,results252,go_sem]) rfl ⟨by rw [bh.out],?_⟩;exact Rm
theorem Ia (h:k<d.length):hd (d.drop k)=d[k]:=by
 unfold hd;rw [fV,ew (by rw [qB];omega),gE,xn]
 rfl
theorem Bw (h:¬ k<d.length):hd (d.drop k)=j4:=by
 rw [rM N7];rfl
theorem Ib {t:ByteArray} (ax:0<t.size) (h:dG (d.drop k) t=true):k<d.length:=by
 by_cases N:k<d.length
 . exact N
 . unfold dG at h
   rw [Bw N,kj,kj] at h
   have:t.data.toList=[]:=by simpa [j4] using (beq_iff_eq.1 h).symm
   have:=Lx.zbb t;simp_all
theorem sT (R q:Nat) (a:OA) (d l:List Tk) (w:World) (h:dH R a q d w l) :
 dw 252 #[dF R 0,di 0] w fun e G=>e = .returned (.agg #[di (hd l).kind,di (hd l).n,.string (hd l).text])/\dm w G:=
 Bv R q 0 a d l w N7 h
theorem Bx (k n:Int) (t:ByteArray):∀ w:World,(Instr.field 184 (.agg #[di k,di n,.string t]) 0).run prog w = .ok (di k) w:=fun _=>by kernel_rfl
theorem uE (k n:Int) (t:ByteArray):∀ w:World,(Instr.field 184 (.agg #[di k,di n,.string t]) 2).run prog w = .ok (.string t) w:=fun _=>by kernel_rfl
theorem lx (R q:Nat) (a:OA) (d l:List Tk) (t:ByteArray) (w:World) (ax:0<t.size) (h:dH R a q d w l) (a8:dG l t=true) :
 dw 197 #[dF R 0,.string t] w fun e G=>e = .returned (.bool true)/\dH R a q d G l.tail/\dK R w G:=by
 obtain ⟨k,N,rfl,I⟩:=h.idx;have ac:=Ib ax a8;have z:Hid (dH R a q d w (d.drop k)):=h;have aR:Hid (dw 252 #[dF R 0,di 0] w fun e G=>e = .returned (.agg #[di (hd (d.drop k)).kind,di (hd (d.drop k)).n,.string (hd (d.drop k)).text])/\dm w G):=sT R q a d (d.drop k) w h
 have aM:Hid ((d.drop k).tail=d.drop (k+1)):=by show List.tail _=_;rw [List.tail_drop]
 have b8:=h.len;have C:((hd (d.drop k)).text.toList == t.toList)=true:=a8;have ag:Hid (w.heap[R]? = some (.cells #[.slice a d.length q,di k] 239 (0,0))):=I;clear h a8 I;generalize hd (d.drop k)=o at *;have p:=uE o.kind o.n o.text;go_enter func197,ntmps197;go_wp2_with fail;refine aR.mono ?_;rintro e dk ⟨rfl,aq⟩;have B:Hid (dk.heap[R]? = some (.cells #[.slice a d.length q,di k] 239 (0,0))):=(aq.block R z.lt).trans ag
 have aO:dk.cell? (dj R 1)=some (di k):=by rw [eZ B.out];rfl
 have m:dk.frozen? (dj R 1)=false:=hD B 1;clear aR;go_wp2_with fail;go_ret;refine ⟨rfl,?_,(dK.of_below aq R).trans (dK.setCell R dk 1 _)⟩;rw [aM.out];exact (z.later aq).adv ac B
theorem kE (R q:Nat) (a:OA) (d l:List Tk) (t:ByteArray) (w:World) (h:dH R a q d w l) (a8:dG l t=false) :
 dw 197 #[dF R 0,.string t] w fun e G=>e = .returned (.bool false)/\dH R a q d G l/\dK R w G:=by
 have z:Hid (dH R a q d w l):=h;have aR:Hid (dw 252 #[dF R 0,di 0] w fun e G=>e = .returned (.agg #[di (hd l).kind,di (hd l).n,.string (hd l).text])/\dm w G):=sT R q a d l w h;have C:((hd l).text.toList == t.toList)=false:=a8;clear h a8;generalize hd l=o at *;have p:=uE o.kind o.n o.text;go_enter func197,ntmps197;go_wp2_with fail;refine aR.mono ?_;rintro e dk ⟨rfl,aq⟩;clear aR;go_wp2_with fail;go_ret;exact ⟨rfl,z.later aq,dK.of_below aq R⟩
theorem take_any (R q:Nat) (a:OA) (d l:List Tk) (w:World) (h:dH R a q d w l) :
 dw 251 #[dF R 0] w fun e G=>e = .returned (.agg #[di (hd l).kind,di (hd l).n,.string (hd l).text])/\(l≠[]->dH R a q d G l.tail)/\dK R w G:=by
 obtain ⟨k,N,rfl,I⟩:=h.idx;have z:Hid (dH R a q d w (d.drop k)):=h;have b8:=h.len
 have aV:Hid (d.drop k≠[]->k<d.length):=fun aX=>by
  by_cases N:k<d.length
  . exact N
  . exact absurd (rM N7) aX
 have aM:Hid ((d.drop k).tail=d.drop (k+1)):=by show List.tail _=_;rw [List.tail_drop]
 have ag:Hid (w.heap[R]? = some (.cells #[.slice a d.length q,di k] 239 (0,0))):=I
 have aR:Hid (∀ w:World,dH R a q d w (d.drop k)->dw 252 #[dF R 0,di 0] w fun e G=>e = .returned (.agg #[di (hd (d.drop k)).kind,di (hd (d.drop k)).n,.string (hd (d.drop k)).text])/\dm w G):=fun w h=>sT R q a d (d.drop k) w h
 clear h I;generalize hd (d.drop k)=o at *;go_enter func251,ntmps251;go_wp2_with fail;refine (aR _ (z.later ((Below.refl _ _).alloc (dA _) _))).mono ?_;rintro e dk ⟨rfl,aq⟩;have bC:dm w dk:=((Below.refl _ _).alloc (dA _) _).trans (aq.mono Ob);have g:=z.lt;have ba:=aq.size;simp at ba;have B:Hid (dk.heap[R]? = some (.cells #[.slice a d.length q,di k] 239 (0,0))):=(bC.block R g).trans ag
 have aO:dk.cell? (dj R 1)=some (di k):=by rw [eZ B.out];rfl
 have m:dk.frozen? (dj R 1)=false:=hD B 1;have b:dk.heap[w.heap.size]? = some (.cells #[di 0,di 0,.string ⟨#[]⟩] 184):=(aq.block w.heap.size Ob).trans (_root_.Go.heap_alloc_new w _)
 have x:dk.cell? (dj w.heap.size 0)=some (di 0):=by rw [eZ b];rfl
 have aJ:dk.cell? (dj w.heap.size 1)=some (di 0):=by rw [eZ b];rfl
 have V:dk.cell? (dj w.heap.size 2)=some (.string ⟨#[]⟩):=by rw [eZ b];rfl
 have c:dk.frozen? (dj w.heap.size 0)=false:=hD b 0;have Q:dk.frozen? (dj w.heap.size 1)=false:=hD b 1;have f:dk.frozen? (dj w.heap.size 2)=false:=hD b 2;clear b
 have a6:R<dk.heap.size:=N7
 have j:w.heap.size<dk.heap.size:=N7
 have aX:w.heap.size≠R:=N7
 go_wp2_with fail;refine bodyPost_ret (v:=.agg #[di o.kind,di o.n,.string o.text]) (by simp [results,results251,go_sem,x,aJ,V,j]) rfl ⟨rfl,fun i=>?_,?_⟩
 . rw [aM.out]
   exact (((((z.later bC).adv (aV i) B).setAbove z (dA _) _).setAbove z (dA _) _).setAbove z (dA _) _).alloc _
 . exact ((((dK.of_below bC R).own 1 _).set (dA _) _).set (dA _) _).set (dA _) _ |>.alloc _
theorem Bz (s:ByteArray) (w:World) :
 dw 237 #[.string s] w fun e G=>e = .returned (.bool (se s))/\G=w:=by
 go_enter func237,ntmps237;go_wp2_with fail
 all_goals go_ret
 all_goals exact ⟨ret_bool (by simp_all [se,Cy]),rfl⟩
def fL (R:Nat) (a:OA) (q:Nat) (d:List Tk) (w:World) (r:Option (α × List Tk)) (rep:α->World->Value->Prop) (e:Ending) (G:World):Prop:=
 dK R w G/\((r=none/\e = .panicked iQ)\/∃ x l v,r=some (x,l)/\e = .returned v/\rep x G v/\dH R a q d G l)
theorem dH.fit (h:dH R a q d w l):(hd l).text.size<=maxLen:=by
 obtain ⟨k,N,rfl,I⟩:=h.idx
 by_cases ac:k<d.length
 . rw [Ia ac]
   obtain ⟨b,C,_,H⟩:=h.toks.place ac;exact H.fits k ac
 . rw [Bw ac];exact dY _
theorem uF (R q:Nat) (a:OA) (d l:List Tk) (w:World) (h:dH R a q d w l) :
 dw 196 #[dF R 0] w (fL R a q d w (iw l) fun x _ v=>v = .string x/\x.size<=maxLen):=by
 have aM:Hid (dw 251 #[dF R 0] w fun e G=>e = .returned (.agg #[di (hd l).kind,di (hd l).n,.string (hd l).text])/\(l≠[]->dH R a q d G l.tail)/\dK R w G):=take_any R q a d l w h;have aD:Hid ((hd l).text.size<=maxLen):=h.fit;go_enter func196,ntmps196;go_wp2_with fail;refine aM.mono ?_;rintro e dk ⟨rfl,b4,W⟩
 by_cases N:(hd l).kind=1
 . have aV:Hid (iw l=if !se (hd l).text then some ((hd l).text,l.tail) else none):=by show iw l=_;unfold iw;simp [N]
   have b2:Hid (l≠[]):=vj (by rw [N];decide)
   by_cases aA:se (hd l).text=true
   . go_wp2_with (go_at_call 237;refine (Bz _ _).mono ?_;rintro e G ⟨rfl,rfl⟩)
     exact ⟨rfl,W.alloc _,Or.inl ⟨by rw [aV.out,aA];rfl,rfl⟩⟩
   . have b:se (hd l).text=false:=by simpa using aA
     clear aA
     go_wp2_with (go_at_call 237;refine (Bz _ _).mono ?_;rintro e G ⟨rfl,rfl⟩)
     go_ret;exact ⟨W.alloc _,Or.inr ⟨_,_,_,by rw [aV.out,b];rfl,rfl,⟨rfl,aD⟩,(b4 b2).alloc _⟩⟩
 . have aV:Hid (iw l=none):=by show iw l=_;unfold iw;simp [N]
   exact S5
theorem Ic (R q:Nat) (a:OA) (d l:List Tk) (w:World) (h:dH R a q d w l) :
 dw 253 #[dF R 0] w (fL R a q d w (pNum l) fun x _ v=>v=di x):=by
 have aM:Hid (dw 251 #[dF R 0] w fun e G=>e = .returned (.agg #[di (hd l).kind,di (hd l).n,.string (hd l).text])/\(l≠[]->dH R a q d G l.tail)/\dK R w G):=take_any R q a d l w h;go_enter func253,ntmps253;go_wp2_with fail;refine aM.mono ?_;rintro e dk ⟨rfl,b4,W⟩
 by_cases N:(hd l).kind=2
 . have aV:Hid (pNum l=some ((hd l).n,l.tail)):=by show pNum l=_;unfold pNum;simp [N]
   have b2:Hid (l≠[]):=vj (by rw [N];decide);go_wp2_with fail;go_ret;exact ⟨W.alloc _,Or.inr ⟨_,_,_,aV,rfl,rfl,(b4 b2).alloc _⟩⟩
 . have aV:Hid (pNum l=none):=by show pNum l=_;unfold pNum;simp [N]
   exact S5
theorem Id {p:α->Bool}:∀ {l:List α},(l.take l.length).all (fun x=>!p x)=true->l.find? p=none:=by
 intro l h;rw [gu] at h;rw [List.find?_eq_none];intro x S;have:=e1.1 h x S;exact S2
theorem w7 {p:α->Bool}:∀ {l:List α} {k:Nat} (N:k<l.length),(l.take k).all (fun x=>!p x)=true->p l[k]=true->l.find? p=some l[k]
 | [],k,N,_,_=>by simp at N
 | x :: r,0,N,_,h=>by simp at h;simp [h]
 | x :: r,k+1,N,a7,h=>by
   simp only [List.take_succ_cons,rR,dO] at a7
   have S:p x=false:=by simpa using a7.1
   rw [qE,S];exact w7 (by simpa using N) a7.2 h
theorem uG (R q b c:Nat) (a:OA) (d l:List Tk) (f:List ByteArray) (w:World) (h:dH R a q d w l) (I:b<w.heap.size) (g:b≠R) (Z:f.length<=100)
 (W:∀ i (h:i<f.length),w.cell? (dj b i)=some (.string f[i])) (aA:∀ i (h:i<f.length),0<f[i].size) :
 dw 195 #[dF R 0,.slice (some (dj b 0)) f.length c] w (fL R a q d w ((mi l f).map fun t=>(t,l.tail)) fun x _ v=>v = .string x):=by
 have z:Hid (dH R a q d w l):=h;have ao:Hid (∀ i (h:i<f.length),w.cell? (dj b i)=some (.string f[i])):=W;have A:Hid (∀ i (h:i<f.length),0<f[i].size):=aA;clear h W aA;go_enter func195,ntmps195;go_wp2_with fail
 go_loopw [9,6] (fun i _ wr=>∃ k:Nat,k<=f.length/\i=di k/\(f.take k).all (fun t=>!dG l t)=true/\dH R a q d wr l/\dK R w wr) (fun i _ _=>f.length - (intOf i).toNat)
 case atStart=>exact ⟨0,dY _,rfl,rfl,z,dK.refl _ _⟩
 case round=>
  obtain ⟨k,N,rfl,aS,D,ag⟩:=hrel;have aR:Hid ((f.take k).all (fun t=>!dG l t)=true):=aS;have b0:Hid (dH R a q d wr l):=D;clear aS D
  by_cases ac:k<f.length
  . have K:wr.cell? (dj b k)=some (.string f[k]):=(ag.cell I g).trans (ao k ac)
    by_cases a8:dG l f[k]=true
    . have aQ:Hid (dw 197 #[dF R 0,.string f[k]] wr fun e G=>e = .returned (.bool true)/\dH R a q d G l.tail/\dK R wr G):=lx R q a d l f[k] wr (A k ac) b0 a8
      have L:Hid (mi l f=some f[k]):=w7 ac aR a8
      go_wp2_with (go_at_call 197;refine aQ.mono ?_;rintro e w2 ⟨rfl,aY,T⟩)
      go_ret;exact ⟨ag.trans T,Or.inr ⟨_,_,_,by rw [L.out];rfl,rfl,rfl,aY⟩⟩
    . have C:dG l f[k]=false:=by simpa using a8
      have aQ:Hid (dw 197 #[dF R 0,.string f[k]] wr fun e G=>e = .returned (.bool false)/\dH R a q d G l/\dK R wr G):=kE R q a d l f[k] wr b0 C
      go_wp2_with (go_at_call 197;refine aQ.mono ?_;rintro e w2 ⟨rfl,aY,T⟩)
      go_roundw
      case rel=>exact ⟨k+1,N7,Ou,by rw [all_snoc f _ k ac,aR.out,C];rfl,aY,ag.trans T⟩
      case measure=>simp [intOf];omega
  . have j:k=f.length:=by omega
    subst j;have L:Hid (mi l f=none):=Id aR;go_wp2_with fail;exact ⟨rfl,ag,Or.inl ⟨by rw [L.out];rfl,rfl⟩⟩
theorem nv (R q n:Nat) (a:OA) (d l:List Tk) (t:ByteArray) (w:World) (Z:n=w.heap.size) (h:dH R a q d w l) (ax:0<t.size) :
 dw 195 #[dF R 0,.slice (some (dj n 0)) 1 1] (w.alloc (.cells #[.string t] 9)) fun e G=>dK R w G/\((dG l t=false/\e = .panicked iQ)\/(dG l t=true/\e = .returned (.string t)/\dH R a q d G l.tail)):=by
 have ac:=h.lt;subst Z;refine (uG R q w.heap.size 1 a d l [t] _ (h.alloc _) Ob N7 Ob (fun i V=>?_) (fun i V=>?_)).mono ?_
 . obtain rfl:i=0:=by simp at V;omega
   simp
 . obtain rfl:i=0:=by simp at V;omega
   exact ax
 . rintro e G ⟨N,Q⟩
   refine ⟨((dK.refl R w).alloc _).trans N,?_⟩
   have a1:mi l [t]=if dG l t then some t else none:=by unfold mi;rw [qE];cases dG l t<;>rfl
   rw [a1] at Q
   cases a8:dG l t
   . rw [a8] at Q
     rcases Q with ⟨_,rfl⟩ | ⟨x,L,v,Q,_⟩
     . exact Or.inl ⟨rfl,rfl⟩
     . simp at Q
   . rw [a8] at Q
     rcases Q with ⟨Q,_⟩ | ⟨x,L,v,Q,rfl,rfl,H⟩
     . simp at Q
     . simp at Q
       obtain ⟨rfl,rfl⟩:=Q;exact Or.inr ⟨rfl,rfl,H⟩
theorem heap_set {i:Nat} {f:Nat × Nat} (h:w.heap[b]? = some (.cells cs t f)) (u:Value):(w.setCell (dj b i) u).heap[b]? = some (.cells (cs.setIfInBounds i u) t f):=by
 simp [World.setCell,Array.getElem?_modify,h]
theorem eh (h:b≠p.block) (u:Value):(w.setCell p u).heap[b]? = w.heap[b]?:=Below.heap_setCell w p u b h
theorem eR {x o:Obj} (h:w.heap[b]? = some x):(w.alloc o).heap[b]? = some x:=((Below.refl w.heap.size w).alloc (dA _) o |>.block b (lt_of_heap h)).trans h
theorem dX (w:World) (o:Obj):(w.alloc o).heap[w.heap.size]? = some o:=_root_.Go.heap_alloc_new w o
theorem ep (h:w.heap[b]? = some (.cells #[af,a4,am,a5,ax] t (0,0))) :
 w.cell? (dj b 0)=some af/\w.cell? (dj b 1)=some a4/\w.cell? (dj b 2)=some am/\w.cell? (dj b 3)=some a5/\w.cell? (dj b 4)=some ax/\∀ i,w.frozen? (dj b i)=false:=by
 refine ⟨?_,?_,?_,?_,?_,fun i=>hD h i⟩<;>(rw [eZ h];rfl)
theorem ha {aG:Value} (h:w.heap[b]? = some (.cells #[af,a4,am,a5,ax,aG] t (0,0))) :
 w.cell? (dj b 0)=some af/\w.cell? (dj b 1)=some a4/\w.cell? (dj b 2)=some am/\w.cell? (dj b 3)=some a5/\w.cell? (dj b 4)=some ax/\w.cell? (dj b 5)=some aG/\∀ i,w.frozen? (dj b i)=false:=by
 refine ⟨?_,?_,?_,?_,?_,?_,fun i=>hD h i⟩<;>(rw [eZ h];rfl)
theorem Ie (h:w.heap[b]? = some (.cells #[af,a4,am,a5] t (0,0))) :
 w.cell? (dj b 0)=some af/\w.cell? (dj b 1)=some a4/\w.cell? (dj b 2)=some am/\w.cell? (dj b 3)=some a5/\∀ i,w.frozen? (dj b i)=false:=by
 refine ⟨?_,?_,?_,?_,fun i=>hD h i⟩<;>(rw [eZ h];rfl)
theorem dU.keeps (h:dU w A dk A') (N:dK R dk w2) (H:∀ b,b<w.heap.size->A b->b≠R):dU w A w2 A':=
 ⟨fZ h.1 N.size,fun b I a7=>⟨(h.2 b I a7).1,(N.block b (e4 I h.1) (H b I a7)).trans (h.2 b I a7).2⟩⟩
theorem dU.set (h:dU w A dk A') (aA:∀ b,b<w.heap.size->A b->b≠p.block) (u:Value):dU w A (dk.setCell p u) A':=
 ⟨by rw [hk];exact h.1,fun b I a7=>⟨(h.2 b I a7).1,(Below.heap_setCell dk p u b (aA b I a7)).trans (h.2 b I a7).2⟩⟩
theorem dU.to {lo':Nat} (h:dU w (lo<=·) dk (lo<=·)) (X:lo'<=lo):dU w (lo<=·) dk (lo'<=·):=h.trans (dU.lower X)
theorem dK.drew (h:dK R w dk):dK R w dk.drew:=⟨h.os,h.tape,h.output,h.size,h.block⟩
theorem dH.drew (h:dH R a q d w l):dH R a q d w.drew l:=h.still (dK.refl R w).drew rfl
theorem dU.drew (h:dU w A dk A'):dU w A dk.drew A':=⟨h.1,h.2⟩
abbrev set5 (w:World) (b:Nat) (aw aF aM bl a8:Value):World:=((((w.setCell (dj b 0) aw).setCell (dj b 1) aF).setCell (dj b 2) aM).setCell (dj b 3) bl).setCell (dj b 4) a8
abbrev set6 (w:World) (b:Nat) (aw aF aM bl a8 u:Value):World:=(set5 w b aw aF aM bl a8).setCell (dj b 5) u
section
variable {R q b:Nat} {w w0 dk:World} {a:OA} {d l g:List Tk} {A A':Nat->Prop}
theorem dK.set5 (h:dK R w dk) (aA:w.heap.size<=b) (aw aF aM bl a8:Value):dK R w (set5 dk b aw aF aM bl a8):=((((h.set aA aw).set aA aF).set aA aM).set aA bl).set aA a8
theorem dK.set6 (h:dK R w dk) (aA:w.heap.size<=b) (aw aF aM bl a8 u:Value):dK R w (set6 dk b aw aF aM bl a8 u):=(h.set5 aA aw aF aM bl a8).set aA u
theorem dH.set5 (h:dH R a q d dk l) (ab:dH R a q d w0 g) (aA:w0.heap.size<=b) (aw aF aM bl a8:Value):dH R a q d (set5 dk b aw aF aM bl a8) l:=((((h.setAbove ab aA aw).setAbove ab aA aF).setAbove ab aA aM).setAbove ab aA bl).setAbove ab aA a8
theorem dH.set6 (h:dH R a q d dk l) (ab:dH R a q d w0 g) (aA:w0.heap.size<=b) (aw aF aM bl a8 u:Value):dH R a q d (set6 dk b aw aF aM bl a8 u) l:=(h.set5 ab aA aw aF aM bl a8).setAbove ab aA u
theorem dU.set5 (h:dU w A dk A') (aA:∀ k,k<w.heap.size->A k->k≠b) (aw aF aM bl a8:Value):dU w A (set5 dk b aw aF aM bl a8) A':=((((h.set aA aw).set aA aF).set aA aM).set aA bl).set aA a8
theorem dU.set6 (h:dU w A dk A') (aA:∀ k,k<w.heap.size->A k->k≠b) (aw aF aM bl a8 u:Value):dU w A (set6 dk b aw aF aM bl a8 u) A':=(h.set5 aA aw aF aM bl a8).set aA u
end
def k4 (A:Nat->Prop) (x:eA) (w:World) (v:Value):Prop:=∃ a q,v = .agg #[di x.op,di x.n,.string x.mod,.string x.name,.slice a x.args.length q]/\x.mod.size<=maxLen/\x.name.size<=maxLen/\ee w A a x.args.length (eV x.args)
def pp (x:eA) (a:OA) (q:Nat):List Value:=[di x.op,di x.n,.string x.mod,.string x.name,.slice a x.args.length q]
theorem rE (F:x.mod.size<=maxLen) (J:x.name.size<=maxLen) (U:ee w A a x.args.length (eV x.args)):eI w A x.ds (pp x a q):=by
 cases x
 unfold eA.ds;exact .cons kl (.cons kl (.cons (qG F) (.cons (qG J) (.cons U.val .nil))))
theorem uH (F:x.mod.size<=maxLen) (J:x.name.size<=maxLen) (U:ee w A a x.args.length (eV x.args))
 (a1:dU w A G A') (ak:G.heap[g]? = some (.cells #[di x.op,di x.n,.string x.mod,.string x.name,.slice a x.args.length q] t (0,0))) (aO:A' g):ee G A' (some (dj g 0)) 1 (eV [x]):=by
 rw [BW];refine Or.inr ⟨g,0,pp x a q,rfl,aO,lt_of_heap ak,fun j u a2=>?_,rE F J (U.moves a1)⟩;rw [fY,eZ ak];simpa [pp] using a2
theorem Ig {B:Nat->Prop} {y:eA} {u:World} {b:OA} {dap:Nat} (h:x.mod.size<=maxLen/\x.name.size<=maxLen/\ee w A a x.args.length (eV x.args)) (k:y.mod.size<=maxLen/\y.name.size<=maxLen/\ee u B b y.args.length (eV y.args))
 (a1:dU w A G A') (c:dU u B G A') (ak:G.heap[g]? = some (.cells #[di x.op,di x.n,.string x.mod,.string x.name,.slice a x.args.length q,di y.op,di y.n,.string y.mod,.string y.name,.slice b y.args.length dap] t (0,0))) (aO:A' g):ee G A' (some (dj g 0)) 2 (eV [x,y]):=by
 have e:eV [x,y]=x.ds++y.ds:=by simp [eV]
 rw [e];refine Or.inr ⟨g,0,pp x a q++pp y b dap,rfl,aO,lt_of_heap ak,fun j u a2=>?_,(rE h.1 h.2.1 (h.2.2.moves a1)).append (rE k.1 k.2.1 (k.2.2.moves c))⟩;rw [fY,eZ ak];simpa [pp] using a2
theorem BA (R q:Nat) (a:OA) (d l:List Tk) (w:World) (h:dH R a q d w l) :
 dw 294 #[dF R 0] w (fL R a q d w (nJ l) fun x _ v=>v = .tuple #[.string x.1,.string x.2]/\x.1.size<=maxLen/\x.2.size<=maxLen):=by
 have aV:Hid (dw 196 #[dF R 0] w (fL R a q d w (iw l) fun x _ v=>v = .string x/\x.size<=maxLen)):=uF R q a d l w h;clear h;go_enter func294,ntmps294;go_wp2_with fail;refine aV.mono ?_;rintro e dk ⟨W,⟨Z,rfl⟩ | ⟨x,P,v,Z,rfl,⟨rfl,S⟩,b4⟩⟩
 . exact ⟨rfl,W,Or.inl ⟨by unfold nJ;rw [Z],rfl⟩⟩
 have aO:Hid (iw l=some (x,P)):=Z;have b0:Hid (dH R a q d dk P):=b4;clear aV Z b4;go_wp2_with fail
 by_cases a8:dG P td=true
 . refine (lx R q a d P td dk N9 b0 a8).mono ?_
   rintro e w2 ⟨rfl,aY,T⟩;go_wp2_with fail;refine (uF R q a d P.tail w2 aY).mono ?_;rintro e dC ⟨i,⟨aS,rfl⟩ | ⟨a3,D,v,aS,rfl,⟨rfl,a4⟩,b3⟩⟩
   . exact ⟨rfl,(W.trans T).trans i,Or.inl ⟨by unfold nJ;rw [aO.out];simp only [];rw [if_pos a8,aS],rfl⟩⟩
   go_wp2_with fail;go_ret2;exact ⟨(W.trans T).trans i,Or.inr ⟨(x,a3),D,_,by unfold nJ;rw [aO.out];simp only [];rw [if_pos a8,aS],rfl,⟨rfl,S,a4⟩,b3⟩⟩
 . have C:dG P td=false:=by simpa using a8
   refine (kE R q a d P td dk b0 C).mono ?_;rintro e w2 ⟨rfl,aY,T⟩;go_wp2_with fail;go_ret2;exact ⟨W.trans T,Or.inr ⟨(⟨#[]⟩,x),P,_,by unfold nJ;rw [aO.out];simp only [];rw [if_neg a8],rfl,⟨rfl,dY _,S⟩,aY⟩⟩
theorem Ih (l:List Tk):(mi l kn=none/\oO l=none)\/∃ k:Nat,∃ h:k<kn.length,mi l kn=some kn[k]/\oO l=some k:=by
 unfold oO mi
 cases Y:kn.findIdx? (fun t=>dG l t) with
 | none=>
   left
   rw [xi] at Y;refine ⟨List.find?_eq_none.2 fun x S=>by simpa using Y x S,rfl⟩
 | some k=>
   right
   obtain ⟨N,J,U⟩:=uN.1 Y;refine ⟨k,N,?_,rfl⟩;refine w7 N ?_ J;rw [e1];intro x S;obtain ⟨j,a2,rfl⟩:=List.mem_take_iff_getElem.1 S
   have a:j<k:=N7
   simpa using U j a
abbrev nw:ByteArray:=⟨#[38,124,43,45,42,47,37,61,60]⟩
theorem Ii (w:World):dw 298 #[.string nw,.string ⟨#[]⟩] w fun e G=>∃ b,e = .returned (.slice (some (dj b 0)) 9 9)/\w.heap.size<=b/\b<G.heap.size/\(∀ i (h:i<kn.length),G.cell? (dj b i)=some (.string kn[i]))/\dm w G:=by
 have a:∀ (j:Nat) b,nw.data.toList[j]? = some b->b.toNat<128:=by
  intro j b a2;have a1:=qz a2
  have aS:∀ x ∈ nw.data.toList,x.toNat<128:=N9
  exact aS b a1
 refine (Tryz.strings_Split_chars nw ⟨#[]⟩ w rfl N9 a).mono ?_;rintro e G ⟨rfl,rfl⟩;refine ⟨_,rfl,by simp [World.iter],by simp [World.iter],fun i V=>?_,?_⟩
 . have d:Lib.charsB nw=kn:=by decide +kernel
   rw [d,eZ (dX _ _)];simp [V]
 . exact ((Below.refl w.heap.size w).alloc (dA _) _).alloc Ob _
theorem Ij (R q b:Nat) (a:OA) (d l:List Tk) (w:World) (h:dH R a q d w l) (I:b<w.heap.size) (g:b≠R) (W:∀ i (h:i<kn.length),w.cell? (dj b i)=some (.string kn[i])) :
 dw 195 #[dF R 0,.slice (some (dj b 0)) 9 9] w fun e G=>dK R w G/\((oO l=none/\e = .panicked iQ)\/∃ (k:Nat) (an:UInt8),oO l=some k/\k<9/\Lib.indexByte nw.data.toList an=k/\e = .returned (.string ⟨#[an]⟩)/\dH R a q d G l.tail):=by
 refine (uG R q b 9 a d l kn w h I g N9 W N9).mono ?_;rintro e G ⟨N,Q⟩;refine ⟨N,?_⟩
 rcases Ih l with ⟨a1,ap⟩ | ⟨k,N,a1,ap⟩
 . rw [a1] at Q
   rcases Q with ⟨_,rfl⟩ | ⟨_,_,_,ab,_⟩
   . exact Or.inl ⟨ap,rfl⟩
   . cases ab
 . rw [a1] at Q
   rcases Q with ⟨ab,_⟩ | ⟨b6,D,bl,ab,rfl,rfl,b3⟩
   . cases ab
   . obtain ⟨rfl,rfl⟩:=g0 (eX ab)
     right
     have a8:∀ k (h:k<kn.length),∃ an:UInt8,kn[k]=⟨#[an]⟩/\Lib.indexByte nw.data.toList an=k:=by
      intro k N;have f:k<9:=N
      obtain rfl | rfl | rfl | rfl | rfl | rfl | rfl | rfl | rfl:k=0\/k=1\/k=2\/k=3\/k=4\/k=5\/k=6\/k=7\/k=8:=N7
      all_goals exact ⟨_,rfl,by decide +kernel⟩
     obtain ⟨an,aO,bp⟩:=a8 k N;exact ⟨k,an,ap,N,bp,by rw [aO],b3⟩
theorem Tryz.infoP80:(prog.info? 174).map (fun i=>(i.zero,i.size,i.bytes))=some (some (.agg #[di 0,di 0,.string ⟨#[]⟩,.string ⟨#[]⟩,dt]),5,72):=by kernel_rfl
theorem Tryz.infoP48:(prog.info? 176).map (fun i=>(i.zero,i.size,i.bytes))=some (some (.agg #[di 0,.string ⟨#[]⟩,.string ⟨#[]⟩,dt,dt,dt]),6,112):=by kernel_rfl
theorem Tryz.infoP9:(prog.info? 9).map (fun i=>(i.zero,i.size,i.bytes))=some (some (.string ⟨#[]⟩),1,16):=by kernel_rfl
theorem Ik {y:Nat} {e:TypeId} {size:Nat} {v:Value} {n:Nat} {ao:List Value} (h:w.ownsRow y e size v n ao) (N:dK R w G) (H:R<y):G.ownsRow y e size v n ao:=by
 refine ⟨h.1,?_⟩
 rcases h.2 with J | ⟨g,q,o,F,I,ak,Q⟩
 . exact Or.inl J
 . exact Or.inr ⟨g,q,o,F,I,(N.block g (lt_of_heap ak) N7).trans ak,Q⟩
def ow (lo:Nat) (v:Value) (b:Nat):Prop:=lo<=b/\v.ownBlock≠some b
def Row (y:Nat) (e:TypeId) (size:Nat) (w:World) (v:Value) (n:Nat) (ds:List D):Prop:=∃ ao,w.ownsRow y e size v n ao/\eI w (ow y v) ds ao
section
variable {y:Nat} {e:TypeId} {size:Nat} {w G:World} {v:Value} {n R:Nat} {ds:List D}
theorem Row.nil (y:Nat) (e:TypeId) (size:Nat) (w:World):Row y e size w (dt) 0 []:=⟨[],jU _ _ _ _,.nil⟩
theorem Row.keeps (h:Row y e size w v n ds) (N:dK R w G) (H:R<y):Row y e size G v n ds:=by
 obtain ⟨ao,F,J⟩:=h;refine ⟨ao,Ik F N H,J.moves ((dU.refl w _).keeps N ?_)⟩
 intro b _ I;have:=I.1;omega
theorem Row.later (h:Row y e size w v n ds) (I:dm w G):Row y e size G v n ds:=by
 obtain ⟨ao,F,J⟩:=h;exact ⟨ao,ownsRow_later F I,J.moves (dU.of_below I _)⟩
theorem Row.alloc (h:Row y e size w v n ds) (o:Obj):Row y e size (w.alloc o) v n ds:=h.later ((Below.refl _ _).alloc (dA _) o)
theorem Row.set (h:Row y e size w v n ds) (aA:p.block<y) (u:Value):Row y e size (w.setCell p u) v n ds:=by
 obtain ⟨ao,F,J⟩:=h;refine ⟨ao,ownsRow_setCell_below F aA u,J.moves ((dU.refl w _).set ?_ u)⟩
 intro b _ I;have:=I.1;omega
theorem Row.slice (h:Row y e size w v n ds):∃ a q,v = .slice a n q/\ee w (y<=·) a n ds:=by
 obtain ⟨ao,F,J⟩:=h
 have a1:dU w (ow y v) w (y<=·):=⟨dA _,fun b _ I=>⟨I.1,rfl⟩⟩
 rcases F.2 with ⟨rfl,rfl⟩ | ⟨g,q,o,rfl,_⟩
 . exact ⟨none,0,rfl,Or.inl rfl⟩
 . exact ⟨_,q,rfl,ee.of_own F (fun _ h=>h) (J.moves a1)⟩
theorem Row.lt (h:Row y e size w v n ds):∀ k,v.ownBlock=some k->y<=k/\k<w.heap.size:=by
 obtain ⟨ao,F,_⟩:=h;exact F.lt
theorem Row.one (ak:w.heap[g]? = some (.cells cs e (0,0))) (I:y<=g) (a8:cs.size=size) (hd:eI w A ds cs.toList) (aO:∀ b,b<w.heap.size->A b->y<=b/\b≠g) :
 Row y e size w (.slice (some (dj g 0)) 1 1) 1 ds:=by
 refine ⟨cs.toList,⟨by simp [a8],Or.inr ⟨g,1,cs,rfl,I,ak,dA _,Oh,N7,by rw [nF,← a8];exact iq Ob⟩⟩,hd.moves ⟨dA _,fun b F J=>⟨⟨(aO b F J).1,fun h=>(aO b F J).2 ?_⟩,rfl⟩⟩⟩;simp only [Value.ownBlock] at h;exact (eX h).symm
theorem Row.first (hd:eI w A ds cs.toList) (aO:∀ b,b<w.heap.size->A b->y<=b) (I:y<=w.heap.size) (a8:cs.size=size) :
 Row y e size (w.alloc (.cells cs e)) (.slice (some (dj w.heap.size 0)) 1 1) 1 ds:=by
 refine Row.one (dX w _) I a8 (A:=fun b=>A b/\b<w.heap.size) (hd.moves ⟨Ob,fun b F J=>⟨⟨J,F⟩,((Below.refl w.heap.size w).alloc (dA _) (.cells cs e)).block b F⟩⟩) ?_;intro b _ J;exact ⟨aO b J.2 J.1,N7⟩
end
theorem nx {rest:List Oper} {a:Act} (l:o.guard=none) (s x:Operand) (t:TypeId)
 (ap:o.op = .call { callee:=.builtin .append,args:=#[s,x],argTypes:=#[t,t] }) (y:Nat) (e:TypeId) (z:Value) (size bytes:Nat) (ax:P.underlying t=some (.slice e))
 (V:(P.info? e).map (fun i=>(i.zero,i.size,i.bytes))=some (some z,size,bytes)) (C:z.cells.size=size) (am:0<size) (w:World) (v:Value) (n:Nat) (ds m:List D) (a8:a.eval s=v) (b5:Row y e size w v n ds)
 (cs:Array Value) (H:Nat) (d:H=w.heap.size) (S:a.eval x = .slice (some (dj H 0)) 1 1) (r:cs.size=size) (A:Nat->Prop) (B:eI w A m cs.toList) (aO:∀ b,b<w.heap.size->A b->ow y v b)
 (Z:n<=5000) (R:bytes<=200) (L:y<=w.heap.size)
 (h:∀ g q G,Row y e size G (.slice (some (dj g 0)) (n+1) q) (n+1) (ds++m)->Below y w G->w.heap.size<G.heap.size->wpList P ops Y rest (a.put o.dst (.slice (some (dj g 0)) (n+1) q)) G) :
 wpList P ops Y (o :: rest) a (w.alloc (.cells cs e)):=by
 obtain ⟨aY,V,a9,ba,bA⟩:=info_parts V;obtain ⟨ao,T,af⟩:=b5
 have a0:(w.alloc (.cells cs e)).heap.size=w.heap.size+1:=Ob
 refine wpList_append_lies (w.alloc (.cells cs e)) l s x t ap y e aY z size bytes ax V a9 ba bA C am v n ao a8 (T.alloc _) (dj H 0) 1 1 cs.toList S (by simp [r]) ?_ B.one N7 Oh ?_ N7 _ rfl ?_
 . exact QA
 . have:(n+1)*bytes<=5001*200:=rP N7 R
   omega
 . exact Qw
theorem BB {a:Act} {K:Act->World->Prop} {E:Prop} (l:o.guard=none) (s x:Operand) (t:TypeId)
 (ap:o.op = .call { callee:=.builtin .append,args:=#[s,x],argTypes:=#[t,t] }) (y:Nat) (e:TypeId) (z:Value) (size bytes:Nat) (ax:P.underlying t=some (.slice e))
 (V:(P.info? e).map (fun i=>(i.zero,i.size,i.bytes))=some (some z,size,bytes)) (C:z.cells.size=size) (am:0<size) (w:World) (v:Value) (n:Nat) (ds m:List D) (a8:a.eval s=v) (b5:Row y e size w v n ds)
 (cs:Array Value) (H:Nat) (d:H=w.heap.size) (S:a.eval x = .slice (some (dj H 0)) 1 1) (r:cs.size=size) (A:Nat->Prop) (B:eI w A m cs.toList) (aO:∀ b,b<w.heap.size->A b->ow y v b)
 (Z:n<=5000) (R:bytes<=200) (L:y<=w.heap.size)
 (h:∀ g q G,Row y e size G (.slice (some (dj g 0)) (n+1) q) (n+1) (ds++m)->Below y w G->w.heap.size<G.heap.size->K (a.put o.dst (.slice (some (dj g 0)) (n+1) q)) G) :
 if Region.wanted o (yielded ops a.tmps)=true then Oper.wp P o a (w.alloc (.cells cs e)) K Y else E:=by
 obtain ⟨aY,V,a9,ba,bA⟩:=info_parts V;obtain ⟨ao,T,af⟩:=b5
 have a0:(w.alloc (.cells cs e)).heap.size=w.heap.size+1:=Ob
 refine step_append_lies (w.alloc (.cells cs e)) l s x t ap y e aY z size bytes ax V a9 ba bA C am v n ao a8 (T.alloc _) (dj H 0) 1 1 cs.toList S (by simp [r]) ?_ B.one N7 Oh ?_ N7 _ rfl ?_
 . exact QA
 . have:(n+1)*bytes<=5001*200:=rP N7 R
   omega
 . exact Qw
section
variable {R q:Nat} {a:OA} {d l g:List Tk} {w w0 G:World}
theorem dH.belowOf (h:dH R a q d w l) (ab:dH R a q d w0 g) (I:Below w0.heap.size w G):dH R a q d G l:=by
 refine ⟨?_,?_,h.ne,h.len⟩
 . obtain ⟨k,F,J,U⟩:=h.idx
   exact ⟨k,F,J,(I.block R ab.lt).trans U⟩
 . rcases ab.toks with aa | ⟨b,C,a7,aa⟩
   . exact Or.inl aa
   . rcases h.toks with aB | ⟨aL,c0,o,aB⟩
     . exact Or.inl aB
     . have c:aL=b:=by rw [a7] at o;injection o with o;injection o with aJ aI;exact aJ.symm
       subst c;exact Or.inr ⟨aL,c0,o,aB.below I aa.lt⟩
theorem dK.belowOf (h:dK R w0 w) (I:Below w0.heap.size w G):dK R w0 G:=
 ⟨I.os.trans h.os,I.tape.trans h.tape,I.output.trans h.output,fZ h.size I.size,fun k F J=>(I.block k F).trans (h.block k F J)⟩
end
def ny (R n:Nat) (w:World):Nat:=match w.cell? ⟨R,1,none⟩ with | some (.int _ k)=>n - k.toNat | _=>0
theorem dH.left (h:dH R a q d w l):ny R d.length w=l.length:=by
 obtain ⟨k,N,rfl,I⟩:=h.idx;unfold ny;rw [eZ I];simp
def w8 (A:Nat->Prop) (ao:List eA) (w:World) (v:Value):Prop:=∃ a q,v = .slice a ao.length q/\ee w A a ao.length (eV ao)
structure qo (R cap:Nat) (a:OA) (ts:List Tk) (f:Nat):Prop where
 expr:∀ (l:List Tk) (w:World),dH R a cap ts w l->3*l.length+1<=f->dw 283 #[dF R 0] w (fL R a cap ts w (fW f l) (k4 (w.heap.size<=·)))
 pair:∀ (l:List Tk) (w:World),dH R a cap ts w l->3*l.length+2<=f->dw 293 #[dF R 0] w (fL R a cap ts w (lg f l) (k4 (w.heap.size<=·)))
 args:∀ (l:List Tk) (w:World),dH R a cap ts w l->3*l.length+2<=f->dw 295 #[dF R 0] w (fL R a cap ts w (jH f l) (w8 (w.heap.size<=·)))
theorem ko.f (ai:ko d) (h:dH R a q d w l):dG l sd=false/\dG l sb=false/\dG l oK=false/\dG l oL=false:=by
 obtain ⟨k,_,N,_⟩:=h.idx;rw [N];exact ⟨ai.no k,ai.co k,ai.wh k,ai.re k⟩
theorem Il (R q:Nat) (a:OA) (d:List Tk) (f:Nat) (u:qo R q a d f) (l:List Tk) (w:World) (h:dH R a q d w l) (Y:3*l.length+2<=f+1) :
 dw 293 #[dF R 0] w (fL R a q d w (lg (f+1) l) (k4 (w.heap.size<=·))):=by
 have y:Hid (qo R q a d f):=u;have z:Hid (dH R a q d w l):=h;have ad:=h.lt;clear u h;go_enter func293,ntmps293;go_wp2_with fail;refine (y.expr l _ (z.alloc _) N7).mono ?_;rintro e dk ⟨W,⟨Z,rfl⟩ | ⟨x,P,v,Z,rfl,⟨E,ah,rfl,a4,am,hx3⟩,b4⟩⟩
 . exact ⟨rfl,((dK.refl R w).alloc _).trans W,Or.inl ⟨by unfold lg;rw [Z],rfl⟩⟩
 have aO:Hid (fW f l=some (x,P)):=Z
 have bl:Hid (x.mod.size<=maxLen/\x.name.size<=maxLen/\ee dk ((w.heap.size+1)<=·) E x.args.length (eV x.args)):=⟨a4,am,by simpa using hx3⟩
 have n:Hid (dH R a q d dk P):=b4;have o:=oP _ _ _ _ Z;have ba:=W.size;simp at ba;clear Z a4 am hx3 b4;have a2:Hid (dK R w dk):=((dK.refl R w).alloc _).trans W;have B:Hid (dk.heap[w.heap.size]? = some (.cells #[di 0,di 0,.string ⟨#[]⟩,.string ⟨#[]⟩,dt] 174 (0,0))):=(W.block w.heap.size Ob N7).trans (dX _ _);clear W;go_wp2_with fail;refine (Ii _).mono ?_;rintro e w2 ⟨b,rfl,aq,aN,hbc,O⟩;have T:Hid (dK R dk w2):=((dK.refl R dk).alloc _).later O;have aY:Hid (dH R a q d w2 P):=(n.alloc _).later O;have aG:Hid (w2.heap[dk.heap.size]? = some (.cells #[di x.op,di x.n,.string x.mod,.string x.name,.slice E x.args.length ah] 174 (0,0))):=(O.block dk.heap.size Ob).trans (dX _ _);have bA:=O.size;simp at bA aq;clear O;go_wp2_with fail
 refine (Ij R q b a d P w2 aY aN N7 hbc).mono ?_;rintro e dC ⟨i,⟨ap,rfl⟩ | ⟨k,an,ap,t,g,rfl,b3⟩⟩
 . exact ⟨rfl,(a2.trans T).trans i,Or.inl ⟨by unfold lg;rw [aO.out];simp only [];rw [ap],rfl⟩⟩
 have bX:=i.size;have L:Hid (oO P=some k):=ap;have p:Hid (Lib.indexByte nw.data.toList an=k):=g;have bf:=te (CA ap);have H:Hid (dK R w dC):=(a2.trans T).trans i;have aZ:Hid (dC.heap[dk.heap.size]? = some (.cells #[di x.op,di x.n,.string x.mod,.string x.name,.slice E x.args.length ah] 174 (0,0))):=(i.block dk.heap.size N7 N7).trans aG;have a1:Hid (dU dk (w.heap.size+1<=·) dC (w.heap.size+1<=·)):=((dU.refl dk _).keeps T Qi).keeps i Qi;clear ap hbc aG aY g;have a7:Hid (dH R a q d dC P.tail):=b3;clear b3;go_wp2_with fail;refine (y.expr P.tail dC a7 N7).mono ?_;rintro e dD ⟨C,⟨Z,rfl⟩ | ⟨a3,l4,v,Z,rfl,⟨c,K,rfl,a0,a6,aj⟩,al⟩⟩
 . exact ⟨rfl,H.trans C,Or.inl ⟨by unfold lg;rw [aO.out];simp only [];rw [L.out];simp only [];rw [Z],rfl⟩⟩
 have bg:Hid (fW f P.tail=some (a3,l4)):=Z
 have b7:Hid (a3.mod.size<=maxLen/\a3.name.size<=maxLen/\ee dD (dC.heap.size<=·) c a3.args.length (eV a3.args)):=⟨a0,a6,aj⟩
 have S:Hid (dH R a q d dD l4):=al;have Q:Hid (dK R w dD):=H.trans C;have m:Hid (dU dk (w.heap.size+1<=·) dD (w.heap.size+1<=·)):=a1.keeps C Qi;have aV:Hid (dD.heap[dk.heap.size]? = some (.cells #[di x.op,di x.n,.string x.mod,.string x.name,.slice E x.args.length ah] 174 (0,0))):=(C.block dk.heap.size N7 N7).trans aZ;have bv:=C.size;have X:Hid (dD.heap[w.heap.size]? = some (.cells #[di 0,di 0,.string ⟨#[]⟩,.string ⟨#[]⟩,dt] 174 (0,0))):=(C.block w.heap.size N7 N7).trans ((i.block w.heap.size N7 N7).trans ((T.block w.heap.size N7 N7).trans B));clear Z a0 a6 aj al C aZ a1 H a7;go_wp2_with fail;refine (nv R q _ a d l4 mT _ Ob (S.alloc _) N9).mono ?_;rintro e dJ ⟨s,⟨aU,rfl⟩ | ⟨aU,rfl,az⟩⟩
 . exact ⟨rfl,(Q.alloc _).trans s,Or.inl ⟨by unfold lg;rw [aO.out];simp only [];rw [L.out];simp only [];rw [bg.out];simp only [];rw [if_neg (by simp [aU])],rfl⟩⟩
 have A:Hid (lg (f+1) l=some (.mk (7+k) 0 ⟨#[]⟩ ⟨#[]⟩ [x,a3],l4.tail)):=by show lg (f+1) l=_;unfold lg;rw [aO.out];simp only [];rw [L.out];simp only [];rw [bg.out];simp only [];rw [if_pos aU]
 have bV:=s.size;simp at bV;have b9:Hid (dJ.heap[dk.heap.size]? = some (.cells #[di x.op,di x.n,.string x.mod,.string x.name,.slice E x.args.length ah] 174 (0,0))):=(s.block dk.heap.size Of N7).trans (eR aV);have N:Hid (dJ.heap[dD.heap.size]? = some (.cells #[di a3.op,di a3.n,.string a3.mod,.string a3.name,.slice c a3.args.length K] 174 (0,0))):=(s.block dD.heap.size Ob N7).trans (dX _ _);have bu:Hid (dJ.heap[w.heap.size]? = some (.cells #[di 0,di 0,.string ⟨#[]⟩,.string ⟨#[]⟩,dt] 174 (0,0))):=(s.block w.heap.size Of N7).trans (eR X);obtain ⟨bk,bz,bO,c1,c5,j⟩:=ep b9;obtain ⟨bU,bd,bs,bI,bM,bL⟩:=ep N;obtain ⟨ab,F,J,U,aa,aB⟩:=ep bu;have V:Hid (dU dk (w.heap.size+1<=·) dJ (w.heap.size+1<=·)):=(m.alloc _).keeps s Qi
 have bB:Hid (dU dD (dC.heap.size<=·) dJ (dC.heap.size<=·)):=((dU.refl dD _).alloc _).keeps s Qi;have aI:Hid (dH R a q d dJ l4.tail):=az;have ac:Hid (dK R w dJ):=(Q.alloc _).trans s;clear s az aU aV m S
 have D:Hid (∀ w:World,dw 299 #[.string nw,.string ⟨#[an]⟩] w fun e G=>e = .returned (di k)/\G=w):=fun w=>by rw [← p.out];exact Tryz.strings_Index_one nw an w
 have bb:w.heap.size<dJ.heap.size:=N7
 have bT:dk.heap.size<dJ.heap.size:=N7
 have bh:dD.heap.size<dJ.heap.size:=N7
 clear p
 have c7:IntKind.i64.wrap (7+(k:Int))=7+k:=Oj
 have r:∀ M:World,M=(((((dJ.setCell (dj w.heap.size 0) (di (7+k))).setCell (dj w.heap.size 1) (di 0)).setCell (dj w.heap.size 2) (.string ⟨#[]⟩)).setCell (dj w.heap.size 3) (.string ⟨#[]⟩)).setCell (dj w.heap.size 4) (.slice (some (dj dJ.heap.size 0)) 2 2)).alloc (.cells #[di x.op,di x.n,.string x.mod,.string x.name,.slice E x.args.length ah,di a3.op,di a3.n,.string a3.mod,.string a3.name,.slice c a3.args.length K] 174)->
  fL R a q d w (lg (f+1) l) (k4 (w.heap.size<=·)) (.returned (.agg #[di (7+k),di 0,.string ⟨#[]⟩,.string ⟨#[]⟩,.slice (some (dj dJ.heap.size 0)) 2 2])) M.drew:=by
  rintro M rfl;refine ⟨dK.drew (dK.alloc (((((ac.set (dA _) _).set (dA _) _).set (dA _) _).set (dA _) _).set (dA _) _) _),Or.inr ⟨_,_,_,A,rfl,⟨some (dj dJ.heap.size 0),2,rfl,dY _,dY _,?_⟩,dH.drew (dH.alloc (((((aI.setAbove z (dA _) _).setAbove z (dA _) _).setAbove z (dA _) _).setAbove z (dA _) _).setAbove z (dA _) _) _)⟩⟩;refine Ig (t:=174) (q:=ah) (dap:=K) bl b7 (dU.drew (dU.alloc (dU.set (dU.set (dU.set (dU.set (dU.set (V.to N7) ?_ _) ?_ _) ?_ _) ?_ _) ?_ _) _)) (dU.drew (dU.alloc (dU.set (dU.set (dU.set (dU.set (dU.set (bB.to N7) ?_ _) ?_ _) ?_ _) ?_ _) ?_ _) _)) ?_ N7
  all_goals first | (intro b;simp only [];omega) | skip
  have e:=dX (((((dJ.setCell (dj w.heap.size 0) (di (7+k))).setCell (dj w.heap.size 1) (di 0)).setCell (dj w.heap.size 2) (.string ⟨#[]⟩)).setCell (dj w.heap.size 3) (.string ⟨#[]⟩)).setCell (dj w.heap.size 4) (.slice (some (dj dJ.heap.size 0)) 2 2)) (.cells #[di x.op,di x.n,.string x.mod,.string x.name,.slice E x.args.length ah,di a3.op,di a3.n,.string a3.mod,.string a3.name,.slice c a3.args.length K] 174);simp only [hk] at e;exact e
 have I:Hid _:=r;clear r;go_wp2_with fail
 go_region_with (go_at_call 299;refine (D _).mono ?_;rintro e G ⟨rfl,rfl⟩)
 all_goals go_wp2_with fail
 all_goals refine bodyPost_ret (v:=.agg #[di (7+k),di 0,.string ⟨#[]⟩,.string ⟨#[]⟩,.slice (some (dj dJ.heap.size 0)) 2 2]) (by simp [results,results293,go_sem,ab,F,J,U,aa,bb]) rfl ?_
 all_goals exact I.out _ rfl
theorem Im (l:List Tk) (t u:ByteArray):mi l [t,u]=if dG l t then some t else if dG l u then some u else none:=by
 unfold mi;rw [qE,qE];cases dG l t<;>cases dG l u<;>rfl
theorem Io (R q n:Nat) (a:OA) (d l:List Tk) (t u:ByteArray) (w:World) (Z:n=w.heap.size) (h:dH R a q d w l) (ax:0<t.size) (aL:0<u.size) :
 dw 195 #[dF R 0,.slice (some (dj n 0)) 2 2] (w.alloc (.cells #[.string t,.string u] 9)) fun e G=>dK R w G/\((dG l t=false/\dG l u=false/\e = .panicked iQ)\/(dG l t=true/\e = .returned (.string t)/\dH R a q d G l.tail)\/(dG l t=false/\dG l u=true/\e = .returned (.string u)/\dH R a q d G l.tail)):=by
 have ac:=h.lt;subst Z;refine (uG R q w.heap.size 2 a d l [t,u] _ (h.alloc _) Ob N7 Ob (fun i V=>?_) (fun i V=>?_)).mono ?_
 . obtain rfl | rfl:i=0\/i=1:=by simp at V;omega
   all_goals simp
 . obtain rfl | rfl:i=0\/i=1:=by simp at V;omega
   . exact ax
   . exact aL
 . rintro e G ⟨N,Q⟩
   refine ⟨((dK.refl R w).alloc _).trans N,?_⟩;rw [Im] at Q
   cases a8:dG l t<;>cases r:dG l u<;>rw [a8,r] at Q<;>simp only [qA,if_false,if_true,Option.map_none,rO] at Q
   . rcases Q with ⟨_,rfl⟩ | ⟨x,L,v,Q,_⟩
     . exact Or.inl ⟨rfl,rfl,rfl⟩
     . cases Q
   . rcases Q with ⟨Q,_⟩ | ⟨x,L,v,Q,rfl,rfl,H⟩
     . cases Q
     . obtain ⟨rfl,rfl⟩:=g0 (eX Q)
       exact Or.inr (Or.inr ⟨rfl,rfl,rfl,H⟩)
   all_goals
    rcases Q with ⟨Q,_⟩ | ⟨x,L,v,Q,rfl,rfl,H⟩
    . cases Q
    . obtain ⟨rfl,rfl⟩:=g0 (eX Q)
      exact Or.inr (Or.inl ⟨rfl,rfl,H⟩)
theorem Ip (R q:Nat) (a:OA) (d:List Tk) (ai:ko d) (f:Nat) (u:∀ g,g<=f->qo R q a d g) (l:List Tk) (w:World) (h:dH R a q d w l) (Y:3*l.length+2<=f+1) :
 dw 295 #[dF R 0] w (fL R a q d w (jH (f+1) l) (w8 (w.heap.size<=·))):=by
 have y:Hid (∀ g,g<=f->qo R q a d g):=u;have z:Hid (dH R a q d w l):=h;have ad:=h.lt
 have bb:l.length<=4096:=by
  exact R8
 clear u h;go_enter func295,ntmps295;go_wp2_with fail
 by_cases a8:dG l mT=true
 . refine (lx R q a d l mT w N9 z a8).mono ?_
   rintro e dk ⟨rfl,b4,W⟩;go_wp2_with fail;go_ret;exact ⟨W,Or.inr ⟨[],l.tail,_,by unfold jH;rw [if_pos a8],rfl,⟨none,0,rfl,Or.inl rfl⟩,b4⟩⟩
 have C:dG l mT=false:=by simpa using a8
 refine (kE R q a d l mT w z C).mono ?_;rintro e dk ⟨rfl,b4,W⟩;have n:Hid (dH R a q d dk l):=b4;have a2:Hid (dK R w dk):=W;have ba:=W.size;clear b4 W;go_wp2_with fail;refine ((y f (dA _)).expr l dk n N7).mono ?_;rintro e w2 ⟨T,⟨Z,rfl⟩ | ⟨x,j,v,Z,rfl,⟨a0,ae,rfl,a4,am,hx3⟩,aY⟩⟩
 . exact ⟨rfl,a2.trans T,Or.inl ⟨by unfold jH;rw [if_neg a8,Z],rfl⟩⟩
 have a9:=oP _ _ _ _ Z
 have A:Hid (jH (f+1) l=nK f [x] j):=by show jH (f+1) l=_;unfold jH;rw [if_neg a8,Z]
 have an:Hid (dH R a q d w2 j):=aY;have K:Hid (dK R w w2):=a2.trans T;have aZ:Hid (eI w2 (dk.heap.size<=·) x.ds (pp x a0 ae)):=rE a4 am hx3;have bA:=T.size;clear Z aY T a4 am hx3 a8 C n a2;go_wp2_with fail
 go_loopw [3] (fun v wr=>∃ (g:Nat) (H:List eA) (L:List Tk),g<=f/\jH (f+1) l=nK g H L/\3*L.length+3<=g/\H.length+L.length<=l.length/\Row w.heap.size 174 5 wr v H.length (eV H)/\dH R a q d wr L/\dK R w wr) (fun _ wr=>ny R d.length wr)
 case atStart=>
  refine ⟨f,[x],j,dA _,A,N7,Of,?_,an.alloc _,K.alloc _⟩;rw [BW];exact Row.first (cs:=#[di x.op,di x.n,.string x.mod,.string x.name,.slice a0 x.args.length ae]) aZ (fun b _ h=>N7) N7 rfl
 case round=>
  obtain ⟨g,H,L,ak,hpm,b1,hacc,b5,D,ag⟩:=hrel;have bz:Hid (jH (f+1) l=nK g H L):=hpm;have P:Hid (Row w.heap.size 174 5 wr u3 H.length (eV H)):=b5;have b0:Hid (dH R a q d wr L):=D;have aP:Hid (dK R w wr):=ag;have bj:=ag.size
  obtain ⟨g,rfl⟩:∃ ac,g=ac+1:=⟨g - 1,N7⟩
  clear hpm b5 D ag A aZ;go_wp2_with fail;refine (Io R q _ a d L sb mT _ Ob b0 N9 N9).mono ?_;rintro e dC ⟨i,⟨F,J,rfl⟩ | ⟨F,rfl,b3⟩ | ⟨F,J,rfl,b3⟩⟩
  . exact ⟨rfl,aP.trans i,Or.inl ⟨by rw [bz.out];unfold nK;rw [if_neg (by simp [F]),if_neg (by simp [J])],rfl⟩⟩
  . rw [(ai.f b0.out).2.1] at F;cases F
  . have A:Hid (jH (f+1) l=some (H,L.tail)):=by show jH (f+1) l=_;rw [bz.out];unfold nK;rw [if_neg (by simp [F]),if_pos J]
    have aM:Hid (Row w.heap.size 174 5 dC u3 H.length (eV H)):=P.keeps i ad;exact Ss
abbrev jp:Obj:=.cells #[di 0,di 0,.string ⟨#[]⟩,.string ⟨#[]⟩,dt] 174 (0,0)
theorem rF {r:Option (eA × List Tk)} {E:OA} {ah:Nat} (ab:dH R a q d w l) (Q:r=some (x,L)) (N:dK R w dk) (D:dH R a q d dk L)
 (a4:x.mod.size<=maxLen) (am:x.name.size<=maxLen) (S:ee dk (lo<=·) E x.args.length (eV x.args)) (m:w.heap.size<lo) :
 fL R a q d w r (k4 (w.heap.size<=·)) (.returned (.agg #[di x.op,di x.n,.string x.mod,.string x.name,.slice E x.args.length ah])) (set5 dk w.heap.size (di x.op) (di x.n) (.string x.mod) (.string x.name) (.slice E x.args.length ah)):=by
 refine ⟨N.set5 (dA _) _ _ _ _ _,Or.inr ⟨x,L,_,Q,rfl,⟨E,ah,rfl,a4,am,?_⟩,D.set5 ab (dA _) _ _ _ _ _⟩⟩;exact S.moves (((dU.refl dk (lo<=·)).set5 PF _ _ _ _ _).to N7)
theorem Iq (R q:Nat) (a:OA) (d:List Tk) (ai:ko d) (f:Nat) (u:qo R q a d f) (l:List Tk) (w:World) (h:dH R a q d w l) (Y:3*l.length+1<=f+1) :
 dw 283 #[dF R 0] w (fL R a q d w (fW (f+1) l) (k4 (w.heap.size<=·))):=by
 have y:Hid (qo R q a d f):=u;have z:Hid (dH R a q d w l):=h;have ad:=h.lt;have aN:=Bx (hd l).kind (hd l).n (hd l).text;clear u h;go_enter func283,ntmps283;go_wp2_with fail;refine (sT R q a d l _ (z.alloc _)).mono ?_;rintro e dk ⟨rfl,aq⟩;have b4:Hid (dH R a q d dk l):=(z.alloc _).later aq;have W:Hid (dK R w dk):=((dK.refl R w).alloc _).later aq;have B:Hid (dk.heap[w.heap.size]? = some jp):=(aq.block w.heap.size Ob).trans (dX _ _);have ba:=aq.size;simp at ba;clear aq
 by_cases N:(hd l).kind=2
 . have A:Hid (fW (f+1) l=some (.mk 1 (hd l).n ⟨#[]⟩ ⟨#[]⟩ [],l.tail)):=by show fW (f+1) l=_;unfold fW;rw [if_pos N]
   have br:Hid (pNum l=some ((hd l).n,l.tail)):=by show pNum l=_;unfold pNum;rw [if_pos N]
   have aO:=Bx 2 (hd l).n (hd l).text;go_wp2_with fail;refine (Ic R q a d l dk b4).mono ?_;rintro e w2 ⟨T,⟨Z,rfl⟩ | ⟨n,j,v,Z,rfl,rfl,aY⟩⟩
   . rw [br.out] at Z;cases Z
   rw [br.out] at Z;obtain ⟨rfl,rfl⟩:=g0 (eX Z);have O:Hid (w2.heap[w.heap.size]? = some jp):=(T.block w.heap.size N7 N7).trans B;obtain ⟨ab,F,J,U,aa,aB⟩:=ep O;have bA:=T.size
   have bb:w.heap.size<w2.heap.size:=N7
   have aD:Hid (fL R a q d w (fW (f+1) l) (k4 (w.heap.size<=·)) (.returned (.agg #[di 1,di (hd l).n,.string ⟨#[]⟩,.string ⟨#[]⟩,dt])) (set5 w2 w.heap.size (di 1) (di (hd l).n) (.string ⟨#[]⟩) (.string ⟨#[]⟩) (dt))):=
    rF (x:=.mk 1 (hd l).n ⟨#[]⟩ ⟨#[]⟩ []) z A (W.trans T) aY (dY _) (dY _) (lo:=w2.heap.size) (Or.inl rfl) bb
   clear Z aY T;go_wp2_with fail;refine bodyPost_ret (v:=.agg #[di 1,di (hd l).n,.string ⟨#[]⟩,.string ⟨#[]⟩,dt]) OG rfl aD
 go_wp2_with fail
 by_cases r:dG l vi=true
 . refine (lx R q a d l vi dk N9 b4 r).mono ?_
   rintro e w2 ⟨rfl,aY,T⟩;have O:Hid (w2.heap[w.heap.size]? = some jp):=(T.block w.heap.size N7 N7).trans B;obtain ⟨ab,F,J,U,aa,aB⟩:=ep O;have bA:=T.size
   have bb:w.heap.size<w2.heap.size:=N7
   have aD:Hid (fL R a q d w (fW (f+1) l) (k4 (w.heap.size<=·)) (.returned (.agg #[di 2,di 0,.string ⟨#[]⟩,.string ⟨#[]⟩,dt])) (set5 w2 w.heap.size (di 2) (di 0) (.string ⟨#[]⟩) (.string ⟨#[]⟩) (dt))):=
    rF (x:=.mk 2 0 ⟨#[]⟩ ⟨#[]⟩ []) z (by unfold fW;rw [if_neg N,if_pos r]) (W.trans T) aY (dY _) (dY _) (lo:=w2.heap.size) (Or.inl rfl) bb
   clear aY T;go_wp2_with fail;refine bodyPost_ret (v:=.agg #[di 2,di 0,.string ⟨#[]⟩,.string ⟨#[]⟩,dt]) OG rfl aD
 refine (kE R q a d l vi dk b4 (by simpa using r)).mono ?_;rintro e w2 ⟨rfl,aY,T⟩;have an:Hid (dH R a q d w2 l):=aY;have K:Hid (dK R w w2):=W.trans T;have O:Hid (w2.heap[w.heap.size]? = some jp):=(T.block w.heap.size N7 N7).trans B;have bA:=T.size;clear aY T b4 W B;go_wp2_with fail
 by_cases g:dG l sd=true
 . rw [(ai.f an.out).1] at g;cases g
 refine (kE R q a d l sd w2 an (by simpa using g)).mono ?_;rintro e dC ⟨rfl,b3,i⟩;have a7:Hid (dH R a q d dC l):=b3;have H:Hid (dK R w dC):=K.trans i;have t:Hid (dC.heap[w.heap.size]? = some jp):=(i.block w.heap.size N7 N7).trans O;have bX:=i.size;clear b3 i an K O;go_wp2_with fail
 by_cases G:dG l lf=true
 . have b8:=f9 N9 G
   refine (lx R q a d l lf dC N9 a7 G).mono ?_;rintro e dD ⟨rfl,al,C⟩;have bv:=C.size;have X:Hid (dD.heap[w.heap.size]? = some jp):=(C.block w.heap.size N7 N7).trans t;go_wp2_with fail;refine (y.pair l.tail dD al N7).mono ?_;rintro e dJ ⟨s,⟨Z,rfl⟩ | ⟨a3,l5,v,Z,rfl,⟨V,av,rfl,a0,a6,aj⟩,az⟩⟩
   . exact ⟨rfl,(H.trans C).trans s,Or.inl ⟨by unfold fW;rw [if_neg N,if_neg r,if_neg g,if_pos G,Z],rfl⟩⟩
   have bu:Hid (dJ.heap[w.heap.size]? = some jp):=(s.block w.heap.size N7 N7).trans X;obtain ⟨ab,F,J,U,aa,aB⟩:=ep bu;have bV:=s.size
   have aD:Hid (fL R a q d w (fW (f+1) l) (k4 (w.heap.size<=·)) (.returned (.agg #[di a3.op,di a3.n,.string a3.mod,.string a3.name,.slice V a3.args.length av])) (set5 dJ w.heap.size (di a3.op) (di a3.n) (.string a3.mod) (.string a3.name) (.slice V a3.args.length av))):=
    rF (x:=a3) z (by unfold fW;rw [if_neg N,if_neg r,if_neg g,if_pos G,Z]) ((H.trans C).trans s) az a0 a6 (lo:=dD.heap.size) aj N7
   clear Z al az C s a0 a6 aj;go_wp2_with fail;refine bodyPost_ret (v:=.agg #[di a3.op,di a3.n,.string a3.mod,.string a3.name,.slice V a3.args.length av]) OG rfl aD
 refine (kE R q a d l lf dC a7 (by simpa using G)).mono ?_;rintro e dD ⟨rfl,al,C⟩;have S:Hid (dH R a q d dD l):=al;have Q:Hid (dK R w dD):=H.trans C;have X:Hid (dD.heap[w.heap.size]? = some jp):=(C.block w.heap.size N7 N7).trans t;have bv:=C.size
 have ax:Hid (fW (f+1) l=match nJ l with
  | none=>none
  | some ((m,n),P)=>
    if dG P nH then (match fW f P.tail with | none=>none | some (x,j)=>if dG j oN then some (.mk 4 0 m n [x],j.tail) else none)
    else if dG P lf then (match jH f P.tail with | none=>none | some (ao,j)=>some (.mk 5 0 m n ao,j))
    else some (.mk 3 0 m n [],P)):=by
  show fW (f+1) l=_
  conv=>lhs;unfold fW
  rw [if_neg N,if_neg r,if_neg g,if_neg G]
  rfl
 clear al C a7 H t N r g G;go_wp2_with fail;refine (BA R q a d l _ (S.alloc _)).mono ?_;rintro e dJ ⟨s,⟨Z,rfl⟩ | ⟨⟨m,n⟩,l5,v,Z,rfl,⟨rfl,a1,aA⟩,az⟩⟩
 . exact ⟨rfl,(Q.alloc _).trans s,Or.inl ⟨by rw [ax.out,Z],rfl⟩⟩
 have aV:=x8 Z
 have a4:Hid (fW (f+1) l=if dG l5 nH then (match fW f l5.tail with | none=>none | some (x,j)=>if dG j oN then some (.mk 4 0 m n [x],j.tail) else none)
  else if dG l5 lf then (match jH f l5.tail with | none=>none | some (ao,j)=>some (.mk 5 0 m n ao,j))
  else some (.mk 3 0 m n [],l5)):=by
  show fW (f+1) l=_;rw [ax.out,Z]
 have aI:Hid (dH R a q d dJ l5):=az;have ac:Hid (dK R w dJ):=(Q.alloc _).trans s;have bu:Hid (dJ.heap[w.heap.size]? = some jp):=(s.block w.heap.size Of N7).trans (eR X);have b9:Hid (dJ.heap[dD.heap.size]? = some (.cells #[di 3,di 0,.string ⟨#[]⟩,.string ⟨#[]⟩,dt] 174 (0,0))):=(s.block dD.heap.size Ob N7).trans (dX _ _);have bV:=s.size;simp at bV;obtain ⟨ab,F,J,U,aa,aB⟩:=ep b9;clear Z az s ax S X Q;have aE:Hid (dH R a q d ((dJ.setCell (dj dD.heap.size 2) (.string m)).setCell (dj dD.heap.size 3) (.string n)) l5):=(aI.setAbove z OB _).setAbove z OB _;have M:Hid (dK R w ((dJ.setCell (dj dD.heap.size 2) (.string m)).setCell (dj dD.heap.size 3) (.string n))):=(ac.set OB _).set OB _
 have bW:Hid (((dJ.setCell (dj dD.heap.size 2) (.string m)).setCell (dj dD.heap.size 3) (.string n)).heap[w.heap.size]? = some jp):=(eh OZ _).trans ((eh OZ _).trans bu);have ah:Hid (((dJ.setCell (dj dD.heap.size 2) (.string m)).setCell (dj dD.heap.size 3) (.string n)).heap[dD.heap.size]? = some (.cells #[di 3,di 0,.string m,.string n,dt] 174 (0,0))):=heap_set (heap_set b9 _) _
 have cc:((dJ.setCell (dj dD.heap.size 2) (.string m)).setCell (dj dD.heap.size 3) (.string n)).heap.size=dJ.heap.size:=O9
 clear aI ac bu;go_wp2_with fail;generalize (dJ.setCell (dj dD.heap.size 2) (.string m)).setCell (dj dD.heap.size 3) (.string n)=eD at *;clear ab F J U aa aB b9
 by_cases L:dG l5 nH=true
 . have b0:=f9 N9 L
   refine (lx R q a d l5 nH eD N9 aE L).mono ?_;rintro e eP ⟨rfl,HR7,c⟩;have cd:=c.size;have ak:Hid (eP.heap[w.heap.size]? = some jp):=(c.block w.heap.size N7 N7).trans bW;have ag:Hid (eP.heap[dD.heap.size]? = some (.cells #[di 3,di 0,.string m,.string n,dt] 174 (0,0))):=(c.block dD.heap.size N7 N7).trans ah;obtain ⟨ab,F,J,U,aa,aB⟩:=ep ag;have ae:Hid (dH R a q d (eP.setCell (dj dD.heap.size 0) (di 4)) l5.tail):=HR7.setAbove z OB _;have o:Hid (dK R w (eP.setCell (dj dD.heap.size 0) (di 4))):=(M.trans c).set OB _;have af:Hid ((eP.setCell (dj dD.heap.size 0) (di 4)).heap[w.heap.size]? = some jp):=(eh OZ _).trans ak
   have k:Hid ((eP.setCell (dj dD.heap.size 0) (di 4)).heap[dD.heap.size]? = some (.cells #[di 4,di 0,.string m,.string n,dt] 174 (0,0))):=heap_set ag _
   have cl:(eP.setCell (dj dD.heap.size 0) (di 4)).heap.size=eP.heap.size:=O9
   clear HR7 c ak aE M bW ah;go_wp2_with fail;generalize eP.setCell (dj dD.heap.size 0) (di 4)=bw at *;clear ab F J U aa aB ag;refine (y.expr l5.tail bw ae N7).mono ?_;rintro e ar ⟨E,⟨Z,rfl⟩ | ⟨a3,l9,v,Z,rfl,⟨a9,aw,rfl,a0,a6,aj⟩,a8⟩⟩
   . exact ⟨rfl,o.trans E,Or.inl ⟨by rw [a4.out,if_pos L,Z],rfl⟩⟩
   have bm:=E.size;have p:Hid (ar.heap[w.heap.size]? = some jp):=(E.block w.heap.size N7 N7).trans af;have aL:Hid (ar.heap[dD.heap.size]? = some (.cells #[di 4,di 0,.string m,.string n,dt] 174 (0,0))):=(E.block dD.heap.size N7 N7).trans k;obtain ⟨ab,F,J,U,aa,aB⟩:=ep aL
   have bh:dD.heap.size<ar.heap.size:=N7
   have au:Hid (fW f l5.tail=some (a3,l9)):=Z
   have ap:Hid (a3.mod.size<=maxLen/\a3.name.size<=maxLen/\ee ar (bw.heap.size<=·) a9 a3.args.length (eV a3.args)):=⟨a0,a6,aj⟩
   have aK:Hid (dH R a q d ar l9):=a8;have aG:Hid (dK R w ar):=o.trans E;clear Z a8 E a0 a6 aj af k ae o;go_wp2_with fail;refine (nv R q _ a d l9 oN _ Ob ((aK.setAbove z OB _).alloc _) N9).mono ?_;rintro e a2 ⟨D,⟨aU,rfl⟩ | ⟨aU,rfl,HR10⟩⟩
   . exact ⟨rfl,((aG.set OB _).alloc _).trans D,Or.inl ⟨by rw [a4.out,if_pos L,au.out];simp [aU],rfl⟩⟩
   have A:Hid (fW (f+1) l=some (.mk 4 0 m n [a3],l9.tail)):=by show fW (f+1) l=_;rw [a4.out,if_pos L,au.out];simp [aU]
   have aR:=D.size;simp at aR;have ay:Hid (a2.heap[w.heap.size]? = some jp):=(D.block w.heap.size Of N7).trans (eR ((eh OZ _).trans p));have am:Hid (a2.heap[dD.heap.size]? = some (.cells #[di 4,di 0,.string m,.string n,.slice (some (dj ar.heap.size 0)) 1 1] 174 (0,0))):=(D.block dD.heap.size Of N7).trans (eR (heap_set aL _))
   have aM:Hid (a2.heap[ar.heap.size]? = some (.cells #[di a3.op,di a3.n,.string a3.mod,.string a3.name,.slice a9 a3.args.length aw] 174 (0,0))):=(D.block ar.heap.size Ob N7).trans (by
    have e:=dX (ar.setCell (dj dD.heap.size 4) (.slice (some (dj ar.heap.size 0)) 1 1)) (kC a3.op a3.n a3.mod a3.name a9 a3.args.length aw);simp only [hk] at e
    exact e)
   have aH:dU ar (bw.heap.size<=·) a2 (bw.heap.size<=·):=(((dU.refl ar _).set (by intro b _ I;show b≠dD.heap.size;omega) _).alloc _).keeps D PF
   have aD:Hid (fL R a q d w (fW (f+1) l) (k4 (w.heap.size<=·)) (.returned (.agg #[di 4,di 0,.string m,.string n,.slice (some (dj ar.heap.size 0)) 1 1])) (set5 a2 w.heap.size (di 4) (di 0) (.string m) (.string n) (.slice (some (dj ar.heap.size 0)) 1 1))):=
    rF (x:=.mk 4 0 m n [a3]) z A (((aG.set OB _).alloc _).trans D) HR10 a1 aA (lo:=bw.heap.size) (uH ap.1 ap.2.1 ap.2.2 aH aM N7) N7
   obtain ⟨ab,F,J,U,aa,aB⟩:=ep ay;obtain ⟨bU,bd,bs,bI,bM,bL⟩:=ep am;clear D HR10 aH;go_wp2_with fail;refine bodyPost_ret (v:=.agg #[di 4,di 0,.string m,.string n,.slice (some (dj ar.heap.size 0)) 1 1]) OG rfl aD
 refine (kE R q a d l5 nH eD aE (by simpa using L)).mono ?_;rintro e eP ⟨rfl,HR7,c⟩;have cd:=c.size;have aJ:Hid (dH R a q d eP l5):=HR7;have aF:Hid (dK R w eP):=M.trans c;have ak:Hid (eP.heap[w.heap.size]? = some jp):=(c.block w.heap.size N7 N7).trans bW;have ag:Hid (eP.heap[dD.heap.size]? = some (.cells #[di 3,di 0,.string m,.string n,dt] 174 (0,0))):=(c.block dD.heap.size N7 N7).trans ah;clear HR7 c aE M bW ah;go_wp2_with fail
 by_cases a5:dG l5 lf=true
 . have aP:=f9 N9 a5
   refine (lx R q a d l5 lf eP N9 aJ a5).mono ?_;rintro e bw ⟨rfl,ae,o⟩;have cl:=o.size;have af:Hid (bw.heap[w.heap.size]? = some jp):=(o.block w.heap.size N7 N7).trans ak;have k:Hid (bw.heap[dD.heap.size]? = some (.cells #[di 3,di 0,.string m,.string n,dt] 174 (0,0))):=(o.block dD.heap.size N7 N7).trans ag;obtain ⟨ab,F,J,U,aa,aB⟩:=ep k;have a8:Hid (dH R a q d (bw.setCell (dj dD.heap.size 0) (di 5)) l5.tail):=ae.setAbove z OB _;have E:Hid (dK R w (bw.setCell (dj dD.heap.size 0) (di 5))):=(aF.trans o).set OB _;have p:Hid ((bw.setCell (dj dD.heap.size 0) (di 5)).heap[w.heap.size]? = some jp):=(eh OZ _).trans af
   have aL:Hid ((bw.setCell (dj dD.heap.size 0) (di 5)).heap[dD.heap.size]? = some (.cells #[di 5,di 0,.string m,.string n,dt] 174 (0,0))):=heap_set k _
   have bm:(bw.setCell (dj dD.heap.size 0) (di 5)).heap.size=bw.heap.size:=O9
   clear ae o af aJ aF ak ag;go_wp2_with fail;generalize bw.setCell (dj dD.heap.size 0) (di 5)=ar at *;clear ab F J U aa aB k;refine (y.args l5.tail ar a8 N7).mono ?_;rintro e a2 ⟨D,⟨Z,rfl⟩ | ⟨ao,l10,v,Z,rfl,⟨a10,c10,rfl,hx10⟩,HR10⟩⟩
   . exact ⟨rfl,E.trans D,Or.inl ⟨by rw [a4.out,if_neg L,if_pos a5,Z],rfl⟩⟩
   have aR:=D.size
   have A:Hid (fW (f+1) l=some (.mk 5 0 m n ao,l10)):=by show fW (f+1) l=_;rw [a4.out,if_neg L,if_pos a5,Z]
   have ay:Hid (a2.heap[w.heap.size]? = some jp):=(D.block w.heap.size N7 N7).trans p;have am:Hid (a2.heap[dD.heap.size]? = some (.cells #[di 5,di 0,.string m,.string n,dt] 174 (0,0))):=(D.block dD.heap.size N7 N7).trans aL
   have aD:Hid (fL R a q d w (fW (f+1) l) (k4 (w.heap.size<=·)) (.returned (.agg #[di 5,di 0,.string m,.string n,.slice a10 ao.length c10])) (set5 (a2.setCell (dj dD.heap.size 4) (.slice a10 ao.length c10)) w.heap.size (di 5) (di 0) (.string m) (.string n) (.slice a10 ao.length c10))):=
    rF (x:=.mk 5 0 m n ao) z A ((E.trans D).set OB _) (HR10.setAbove z OB _) a1 aA (lo:=ar.heap.size) (hx10.moves ((dU.refl a2 _).set (by intro b _ I;show b≠dD.heap.size;omega) _)) N7
   obtain ⟨ab,F,J,U,aa,aB⟩:=ep ay;obtain ⟨bU,bd,bs,bI,bM,bL⟩:=ep am
   have aX:w.heap.size≠dD.heap.size:=N7
   clear D HR10 Z;go_wp2_with fail;refine bodyPost_ret (v:=.agg #[di 5,di 0,.string m,.string n,.slice a10 ao.length c10]) OG rfl aD
 refine (kE R q a d l5 lf eP aJ (by simpa using a5)).mono ?_;rintro e bw ⟨rfl,ae,o⟩;have cl:=o.size;have af:Hid (bw.heap[w.heap.size]? = some jp):=(o.block w.heap.size N7 N7).trans ak;have k:Hid (bw.heap[dD.heap.size]? = some (.cells #[di 3,di 0,.string m,.string n,dt] 174 (0,0))):=(o.block dD.heap.size N7 N7).trans ag
 have aD:Hid (fL R a q d w (fW (f+1) l) (k4 (w.heap.size<=·)) (.returned (.agg #[di 3,di 0,.string m,.string n,dt])) (set5 bw w.heap.size (di 3) (di 0) (.string m) (.string n) (dt))):=
  rF (x:=.mk 3 0 m n []) z (by rw [a4.out,if_neg L,if_neg a5]) (aF.trans o) ae a1 aA (lo:=bw.heap.size) (Or.inl rfl) N7
 obtain ⟨ab,F,J,U,aa,aB⟩:=ep af;obtain ⟨bU,bd,bs,bI,bM,bL⟩:=ep k;clear o ae;go_wp2_with fail;refine bodyPost_ret (v:=.agg #[di 3,di 0,.string m,.string n,dt]) OG rfl aD
theorem BC (R q:Nat) (a:OA) (d:List Tk) (ai:ko d):∀ f,qo R q a d f:=by
 intro f
 induction f using Nat.strongRecOn with
 | ind f ay=>
   cases f with
   | zero=>exact ⟨fun _ _ _ h=>N7,fun _ _ _ h=>N7,fun _ _ _ h=>N7⟩
   | succ f=>
     exact ⟨fun l w h Y=>Iq R q a d ai f (ay f N7) l w h Y,fun l w h Y=>Il R q a d f (ay f N7) l w h Y,fun l w h Y=>Ip R q a d ai f (fun g ak=>ay g N7) l w h Y⟩
theorem rG (R q:Nat) (a:OA) (d:List Tk) (ai:ko d) (l:List Tk) (w:World) (h:dH R a q d w l) :
 dw 283 #[dF R 0] w (fL R a q d w (pX l) (k4 (w.heap.size<=·))):=(BC R q a d ai _).expr l w h N7
theorem Ir (R q:Nat) (a:OA) (d:List Tk) (ai:ko d) (l:List Tk) (w:World) (h:dH R a q d w l) :
 dw 295 #[dF R 0] w (fL R a q d w (vm l) (w8 (w.heap.size<=·))):=(BC R q a d ai _).args l w h N7
end Go.Proofs.YtndkhgakfodldaaGreatDoor

namespace Go.Proofs.YtndkhgakfodldaaGreatDoor
open Go.RowKit Go.Shelf
section
variable {P:Program} {ops:Array Oper} {o:Oper} {a:Act} {w:World} {K:Act->World->Prop} {Y:Exit->Act->World->Prop} {E:Prop}
theorem BE (f:FuncId) (x:Operand) (d:TypeId) (ap:o.op = .call { callee:=.value (.func f),args:=#[x],argTypes:=#[d] })
 (n:Enters P f) (v:Value) (S:a.eval x=v):(execOp a.eval o).run P w = .ok (.enter f #[v]) w:=by
 have h:=n #[v] w;exact Rc
theorem uI (l:o.guard=none) (f:FuncId) (x:Operand) (d:TypeId) (ap:o.op = .call { callee:=.value (.func f),args:=#[x],argTypes:=#[d] })
 (n:Enters P f) (v:Value) (S:a.eval x=v) {R:Value->World->Prop} (bj:Calls P f #[v] w fun e G=>∃ u,e = .returned u/\R u G)
 (h:∀ u G,R u G->K (a.put o.dst u) G):if Region.wanted o (yielded ops a.tmps)=true then Oper.wp P o a w K Y else E:=by
 have aj:Region.wanted o (yielded ops a.tmps)=true:=OR
 rw [if_pos aj];unfold Oper.wp;rw [BE f x d ap n v S,uV];refine bj.mono ?_;rintro e G ⟨u,rfl,H⟩;exact h u G H
theorem BF (l:o.guard=none) (f:FuncId) (x:Operand) (d:TypeId) (ap:o.op = .call { callee:=.value (.func f),args:=#[x],argTypes:=#[d] })
 (n:Enters P f) (v:Value) (S:a.eval x=v) (c:List PanicEntry) {R:World->Prop} (bj:Calls P f #[v] w fun e G=>e = .panicked c/\R G)
 (h:∀ G,R G->Y (.panic c) a G):if Region.wanted o (yielded ops a.tmps)=true then Oper.wp P o a w K Y else E:=by
 have aj:Region.wanted o (yielded ops a.tmps)=true:=OR
 rw [if_pos aj];unfold Oper.wp;rw [BE f x d ap n v S,uV];refine bj.mono ?_;rintro e G ⟨rfl,H⟩;exact h G H
end
variable {R ah ae c3 q:Nat} {a E a0 a6:OA} {l L d:List Tk} {r:Option (St × List Tk)} {s:St} {w:World}
def kF (A:Nat->Prop) (s:St) (w:World) (v:Value):Prop:=∃ E ah a0 ae a6 c3,v = .agg #[di s.op,.string s.mod,.string s.name,.slice E s.args.length ah,.slice a0 s.body.length ae,.slice a6 s.other.length c3]/\s.mod.size<=maxLen/\s.name.size<=maxLen/\
 ee w A E s.args.length (eV s.args)/\ee w A a0 s.body.length (eE s.body)/\ee w A a6 s.other.length (eE s.other)
def w9 (A:Nat->Prop) (ao:List St) (w:World) (v:Value):Prop:=∃ a q,v = .slice a ao.length q/\ee w A a ao.length (eE ao)
def BG (s:St) (E:OA) (ah:Nat) (a0:OA) (ae:Nat) (a6:OA) (c3:Nat):List Value:=[di s.op,.string s.mod,.string s.name,.slice E s.args.length ah,.slice a0 s.body.length ae,.slice a6 s.other.length c3]
theorem Is {A:Nat->Prop} (F:s.mod.size<=maxLen) (J:s.name.size<=maxLen) (U:ee w A E s.args.length (eV s.args)) (aa:ee w A a0 s.body.length (eE s.body)) (aB:ee w A a6 s.other.length (eE s.other)):eI w A s.ds (BG s E ah a0 ae a6 c3):=by
 cases s
 unfold St.ds;exact .cons kl (.cons (qG F) (.cons (qG J) (.cons U.val (.cons aa.val (.cons aB.val .nil)))))
abbrev fU:Obj:=.cells #[di 0,.string ⟨#[]⟩,.string ⟨#[]⟩,dt,dt,dt] 176 (0,0)
theorem xa {dk:World} (ab:dH R a q d w l) (Q:r=some (s,L)) (N:dK R w dk) (D:dH R a q d dk L)
 (a4:s.mod.size<=maxLen) (am:s.name.size<=maxLen) {lo:Nat} (F:ee dk (lo<=·) E s.args.length (eV s.args)) (J:ee dk (lo<=·) a0 s.body.length (eE s.body)) (U:ee dk (lo<=·) a6 s.other.length (eE s.other)) (m:w.heap.size<lo) :
 fL R a q d w r (kF (w.heap.size<=·)) (.returned (.agg #[di s.op,.string s.mod,.string s.name,.slice E s.args.length ah,.slice a0 s.body.length ae,.slice a6 s.other.length c3])) (set6 dk w.heap.size (di s.op) (.string s.mod) (.string s.name) (.slice E s.args.length ah) (.slice a0 s.body.length ae) (.slice a6 s.other.length c3)):=by
 have a1:dU dk (lo<=·) (set6 dk w.heap.size (di s.op) (.string s.mod) (.string s.name) (.slice E s.args.length ah) (.slice a0 s.body.length ae) (.slice a6 s.other.length c3)) (w.heap.size<=·):=((dU.refl dk (lo<=·)).set6 PF _ _ _ _ _ _).to N7;exact ⟨N.set6 (dA _) _ _ _ _ _ _,Or.inr ⟨s,L,_,Q,rfl,⟨E,ah,a0,ae,a6,c3,rfl,a4,am,F.moves a1,J.moves a1,U.moves a1⟩,D.set6 ab (dA _) _ _ _ _ _ _⟩⟩
theorem BH (R q:Nat) (a:OA) (d l:List Tk) (w:World) (h:dH R a q d w l) (T:Int) (p s:ByteArray) (E a0 a6:OA) (ap ai r ah ae c3:Nat) :
 dw 284 #[dF R 0,.agg #[di T,.string p,.string s,.slice E ap ah,.slice a0 ai ae,.slice a6 r c3]] w fun e G=>dK R w G/\
  ((dG l nI=false/\e = .panicked iQ)\/(dG l nI=true/\e = .returned (.agg #[di T,.string p,.string s,.slice E ap ah,.slice a0 ai ae,.slice a6 r c3])/\dH R a q d G l.tail)):=by
 have z:Hid (dH R a q d w l):=h;have ad:=h.lt;clear h;go_enter func284,ntmps284;go_wp2_with fail;refine (nv R q _ a d l nI _ Ob ((z.alloc _).alloc _) N9).mono ?_;rintro e dk ⟨W,⟨a8,rfl⟩ | ⟨a8,rfl,b4⟩⟩
 . exact ⟨rfl,(((dK.refl R w).alloc _).alloc _).trans W,Or.inl ⟨a8,rfl⟩⟩
 have ba:=W.size;simp at ba;have B:Hid (dk.heap[w.heap.size]? = some (.cells #[di T,.string p,.string s,.slice E ap ah,.slice a0 ai ae,.slice a6 r c3] 176 (0,0))):=(W.block w.heap.size Of N7).trans (eR (dX _ _));have aq:Hid (dk.heap[w.heap.size+1]? = some fU):=(W.block (w.heap.size+1) Ob N7).trans (by have e:=dX (w.alloc (jz T p s E ap ah a0 ai ae a6 r c3)) fU;simpa using e);have a2:Hid (dK R w dk):=(((dK.refl R w).alloc _).alloc _).trans W;have n:Hid (dH R a q d dk l.tail):=b4;obtain ⟨bk,bz,bO,c1,c5,j,c⟩:=ha B;obtain ⟨bU,bd,bs,bI,bM,bL,g6⟩:=ha aq;clear W b4;go_wp2_with fail;refine bodyPost_ret (v:=.agg #[di T,.string p,.string s,.slice E ap ah,.slice a0 ai ae,.slice a6 r c3]) (by simp [results,results284,go_sem,bU,bd,bs,bI,bM,bL]) rfl ⟨a2.set6 N7 _ _ _ _ _ _,Or.inr ⟨a8,rfl,n.set6 z N7 _ _ _ _ _ _⟩⟩
theorem sU {G:World} (Q:r=some (s,L)) (N:dK R w G) (D:dH R a q d G L)
 (a4:s.mod.size<=maxLen) (am:s.name.size<=maxLen) (F:ee G (w.heap.size<=·) E s.args.length (eV s.args)) (J:ee G (w.heap.size<=·) a0 s.body.length (eE s.body)) (U:ee G (w.heap.size<=·) a6 s.other.length (eE s.other)) :
 fL R a q d w r (kF (w.heap.size<=·)) (.returned (.agg #[di s.op,.string s.mod,.string s.name,.slice E s.args.length ah,.slice a0 s.body.length ae,.slice a6 s.other.length c3])) G:=
 ⟨N,Or.inr ⟨s,L,_,Q,rfl,⟨E,ah,a0,ae,a6,c3,rfl,a4,am,F,J,U⟩,D⟩⟩
theorem Iu (l:List Tk) (t u v:ByteArray):mi l [t,u,v]=if dG l t then some t else if dG l u then some u else if dG l v then some v else none:=by
 unfold mi;rw [qE,qE,qE];cases dG l t<;>cases dG l u<;>cases dG l v<;>rfl
theorem Iv (R q n:Nat) (a:OA) (d l:List Tk) (t u v:ByteArray) (w:World) (Z:n=w.heap.size) (h:dH R a q d w l) (ax:0<t.size) (aL:0<u.size) (af:0<v.size) :
 dw 195 #[dF R 0,.slice (some (dj n 0)) 3 3] (w.alloc (.cells #[.string t,.string u,.string v] 9)) fun e G=>dK R w G/\((dG l t=false/\dG l u=false/\dG l v=false/\e = .panicked iQ)\/(dG l t=true/\e = .returned (.string t)/\dH R a q d G l.tail)\/(dG l t=false/\dG l u=true/\e = .returned (.string u)/\dH R a q d G l.tail)\/(dG l t=false/\dG l u=false/\dG l v=true/\e = .returned (.string v)/\dH R a q d G l.tail)):=by
 have ac:=h.lt;subst Z;refine (uG R q w.heap.size 3 a d l [t,u,v] _ (h.alloc _) Ob N7 Ob (fun i V=>?_) (fun i V=>?_)).mono ?_
 . obtain rfl | rfl | rfl:i=0\/i=1\/i=2:=by simp at V;omega
   all_goals simp
 . obtain rfl | rfl | rfl:i=0\/i=1\/i=2:=by simp at V;omega
   . exact ax
   . exact aL
   . exact af
 . rintro e G ⟨N,Q⟩
   refine ⟨((dK.refl R w).alloc _).trans N,?_⟩;rw [Iu] at Q
   have A:∀ x:ByteArray,((some x).map fun t=>(t,l.tail))=some (x,l.tail):=fun _=>rfl
   cases a8:dG l t<;>cases r:dG l u<;>cases g:dG l v<;>rw [a8,r,g] at Q<;>simp only [qA,if_false,if_true,Option.map_none,rO] at Q
   . rcases Q with ⟨_,rfl⟩ | ⟨x,L,a3,Q,_⟩
     . exact Or.inl ⟨rfl,rfl,rfl,rfl⟩
     . cases Q
   all_goals
    rcases Q with ⟨Q,_⟩ | ⟨x,L,a3,Q,rfl,rfl,H⟩
    . cases Q
    . obtain ⟨rfl,rfl⟩:=g0 (eX Q)
      simp [H]
theorem Iw {H:List Tk} {bw ar:World} {x y:eA} {m n:ByteArray} {E aw:Nat} (ab:dH R a q d w l) (Q:r=some (.mk 2 m n [x,y] [] [],H)) (o:dK R w bw) (ae:dH R a q d bw H)
 (a1:m.size<=maxLen) (aA:n.size<=maxLen) (p:Below (w.heap.size+2) bw ar) (aM:Row (w.heap.size+2) 174 5 ar (.slice (some (dj E 0)) 2 aw) 2 (x.ds++y.ds)) :
 fL R a q d w r (kF (w.heap.size<=·)) (.returned (.agg #[di 2,.string m,.string n,.slice (some (dj E 0)) 2 aw,dt,dt])) (set6 (ar.setCell ⟨w.heap.size+1,3,none⟩ (.slice (some (dj E 0)) 2 aw)) w.heap.size (di 2) (.string m) (.string n) (.slice (some (dj E 0)) 2 aw) (dt) (dt)):=by
 have c:Below w.heap.size bw ar:=p.mono N7
 have hd:eV [x,y]=x.ds++y.ds:=by simp [eV]
 obtain ⟨O,j,af,a3⟩:=aM.slice
 injection af with hv1 f hv3
 rw [← hv1,← hd] at a3;have g:=a3.moves ((((dU.refl ar (w.heap.size+2<=·)).set (p:=⟨w.heap.size+1,3,none⟩) O4 (.slice (some (dj E 0)) 2 aw)).set6 (b:=w.heap.size) PF (di 2) (.string m) (.string n) (.slice (some (dj E 0)) 2 aw) (dt) (dt)).to (lo':=w.heap.size) N7)
 have t:=(((o.belowOf c).set (p:=⟨w.heap.size+1,3,none⟩) ON (.slice (some (dj E 0)) 2 aw)).set6 (b:=w.heap.size) (dA _) (di 2) (.string m) (.string n) (.slice (some (dj E 0)) 2 aw) (dt) (dt))
 have e:=((ae.belowOf ab c).setAbove ab (p:=⟨w.heap.size+1,3,none⟩) ON (.slice (some (dj E 0)) 2 aw)).set6 ab (b:=w.heap.size) (dA _) (di 2) (.string m) (.string n) (.slice (some (dj E 0)) 2 aw) (dt) (dt);exact sU (s:=.mk 2 m n [x,y] [] []) Q t e a1 aA g (Or.inl rfl) (Or.inl rfl)
theorem xc:Enters prog 283:=enters_of func283 (by kernel_rfl) rfl
theorem Ix (R q:Nat) (a:OA) (d:List Tk) (ai:ko d) (l:List Tk) (w:World) (h:dH R a q d w l) :
 dw 285 #[dF R 0] w (fL R a q d w (hM l) (kF (w.heap.size<=·))):=by
 have z:Hid (dH R a q d w l):=h;have ad:=h.lt;clear h;go_enter func285,ntmps285;go_wp2_with fail;refine (BA R q a d l _ ((z.alloc _).alloc _)).mono ?_;rintro e dk ⟨W,⟨Z,rfl⟩ | ⟨⟨m,n⟩,P,v,Z,rfl,⟨rfl,a1,aA⟩,b4⟩⟩
 . exact ⟨rfl,(((dK.refl R w).alloc _).alloc _).trans W,Or.inl ⟨by unfold hM;rw [Z],rfl⟩⟩
 have ba:=W.size;simp at ba
 have f:Hid (hM l=if dG P pJ then (match pX P.tail with | none=>none | some (x,j)=>some (.mk 1 m n [x] [] [],j))
  else if dG P nH then (match pX P.tail with
   | none=>none
   | some (x,j)=>if dG j oN then (if dG j.tail pJ then (match pX j.tail.tail with | none=>none | some (a3,D)=>some (.mk 2 m n [x,a3] [] [],D)) else none) else none)
  else if dG P lf then (match vm P.tail with | none=>none | some (ao,j)=>some (.mk 3 m n ao [] [],j))
  else none):=by show hM l=_;unfold hM;rw [Z];rfl
 have a2:Hid (dK R w dk):=(((dK.refl R w).alloc _).alloc _).trans W;have B:Hid (dk.heap[w.heap.size]? = some fU):=(W.block w.heap.size Of N7).trans (eR (dX _ _));have aq:Hid (dk.heap[w.heap.size+1]? = some fU):=(W.block (w.heap.size+1) Ob N7).trans (by have e:=dX (w.alloc fU) fU;simpa using e);obtain ⟨ab,F,J,U,aa,aB,bj⟩:=ha aq;have aY:Hid (dH R a q d ((dk.setCell ⟨w.heap.size+1,1,none⟩ (.string m)).setCell ⟨w.heap.size+1,2,none⟩ (.string n)) P):=(b4.setAbove z Ov _).setAbove z Ov _;have T:Hid (dK R w ((dk.setCell ⟨w.heap.size+1,1,none⟩ (.string m)).setCell ⟨w.heap.size+1,2,none⟩ (.string n))):=(a2.set Ov _).set Ov _
 have O:Hid (((dk.setCell ⟨w.heap.size+1,1,none⟩ (.string m)).setCell ⟨w.heap.size+1,2,none⟩ (.string n)).heap[w.heap.size]? = some fU):=(eh OI _).trans ((eh OI _).trans B);have aG:Hid (((dk.setCell ⟨w.heap.size+1,1,none⟩ (.string m)).setCell ⟨w.heap.size+1,2,none⟩ (.string n)).heap[w.heap.size+1]? = some (.cells #[di 0,.string m,.string n,dt,dt,dt] 176 (0,0))):=heap_set (heap_set aq _) _
 have bA:((dk.setCell ⟨w.heap.size+1,1,none⟩ (.string m)).setCell ⟨w.heap.size+1,2,none⟩ (.string n)).heap.size=dk.heap.size:=O9
 have bT:w.heap.size+1<dk.heap.size:=N7
 clear Z b4 W B a2;go_wp2_with fail;generalize (dk.setCell ⟨w.heap.size+1,1,none⟩ (.string m)).setCell ⟨w.heap.size+1,2,none⟩ (.string n)=w2 at *;clear ab F J U aa aB bj aq;refine (Iv R q _ a d P pJ nH lf w2 N7 aY N9 N9 N9).mono ?_;rintro e dC ⟨i,⟨ay,b1,eU,rfl⟩ | ⟨ay,rfl,b3⟩ | ⟨ay,b1,rfl,b3⟩ | ⟨ay,b1,eU,rfl,b3⟩⟩
 . exact ⟨rfl,T.trans i,Or.inl ⟨by rw [f.out,ay,b1,eU];rfl,rfl⟩⟩
 . have bX:=i.size
   have t:Hid (dC.heap[w.heap.size]? = some fU):=(i.block w.heap.size N7 N7).trans O;have aZ:Hid (dC.heap[w.heap.size+1]? = some (.cells #[di 0,.string m,.string n,dt,dt,dt] 176 (0,0))):=(i.block (w.heap.size+1) N7 N7).trans aG;obtain ⟨ab,F,J,U,aa,aB,bj⟩:=ha aZ;have al:Hid (dH R a q d (dC.setCell ⟨w.heap.size+1,0,none⟩ (di 1)) P.tail):=b3.setAbove z Ov _;have C:Hid (dK R w (dC.setCell ⟨w.heap.size+1,0,none⟩ (di 1))):=(T.trans i).set Ov _;have X:Hid ((dC.setCell ⟨w.heap.size+1,0,none⟩ (di 1)).heap[w.heap.size]? = some fU):=(eh OI _).trans t;have aV:Hid ((dC.setCell ⟨w.heap.size+1,0,none⟩ (di 1)).heap[w.heap.size+1]? = some (.cells #[di 1,.string m,.string n,dt,dt,dt] 176 (0,0))):=heap_set aZ _
   have bv:(dC.setCell ⟨w.heap.size+1,0,none⟩ (di 1)).heap.size=dC.heap.size:=O9
   clear b3 i t aY T O aG;go_wp2_with fail;generalize dC.setCell ⟨w.heap.size+1,0,none⟩ (di 1)=dD at *;clear ab F J U aa aB bj aZ;refine (rG R q a d ai P.tail dD al).mono ?_;rintro e dJ ⟨s,⟨Z,rfl⟩ | ⟨x,l5,v,Z,rfl,⟨V,av,rfl,a4,am,hx3⟩,az⟩⟩
   . exact ⟨rfl,C.trans s,Or.inl ⟨by rw [f.out,if_pos ay,Z],rfl⟩⟩
   have bV:=s.size
   have A:Hid (hM l=some (.mk 1 m n [x] [] [],l5)):=by show hM l=_;rw [f.out,if_pos ay,Z]
   have bu:Hid (dJ.heap[w.heap.size]? = some fU):=(s.block w.heap.size N7 N7).trans X;have b9:Hid (dJ.heap[w.heap.size+1]? = some (.cells #[di 1,.string m,.string n,dt,dt,dt] 176 (0,0))):=(s.block (w.heap.size+1) N7 N7).trans aV
   have aD:Hid (fL R a q d w (hM l) (kF (w.heap.size<=·)) (.returned (.agg #[di 1,.string m,.string n,.slice (some (dj dJ.heap.size 0)) 1 1,dt,dt])) ((set6 (dJ.setCell ⟨w.heap.size+1,3,none⟩ (.slice (some (dj dJ.heap.size 0)) 1 1)) w.heap.size (di 1) (.string m) (.string n) (.slice (some (dj dJ.heap.size 0)) 1 1) (dt) (dt)).alloc (kC x.op x.n x.mod x.name V x.args.length av))):=by
    refine sU (s:=.mk 1 m n [x] [] []) A ((((C.trans s).set Ov _).set6 (dA _) _ _ _ _ _ _).alloc _) (((az.setAbove z Ov _).set6 z (dA _) _ _ _ _ _ _).alloc _) a1 aA ?_ (Or.inl rfl) (Or.inl rfl);refine uH (t:=174) (q:=av) a4 am hx3 (((((dU.refl dJ _).set O4 _).set6 (b:=w.heap.size) PF _ _ _ _ _ _).alloc _).to N7) ?_ (by show w.heap.size<=dJ.heap.size;omega);have e:=dX (set6 (dJ.setCell ⟨w.heap.size+1,3,none⟩ (.slice (some (dj dJ.heap.size 0)) 1 1)) w.heap.size (di 1) (.string m) (.string n) (.slice (some (dj dJ.heap.size 0)) 1 1) (dt) (dt)) (kC x.op x.n x.mod x.name V x.args.length av);simp only [hk] at e;exact e
   obtain ⟨ab,F,J,U,aa,aB,bj⟩:=ha bu;obtain ⟨bU,bd,bs,bI,bM,bL,g6⟩:=ha b9
   have aX:w.heap.size+1<dJ.heap.size:=N7
   have b2:w.heap.size<dJ.heap.size:=N7
   clear Z s az a4 am hx3 X aV al C;go_wp2_with fail;refine bodyPost_ret (v:=.agg #[di 1,.string m,.string n,.slice (some (dj dJ.heap.size 0)) 1 1,dt,dt]) (by simp [results,results285,go_sem,ab,F,J,U,aa,aB,b2]) rfl aD
 . have bX:=i.size
   have t:Hid (dC.heap[w.heap.size]? = some fU):=(i.block w.heap.size N7 N7).trans O;have aZ:Hid (dC.heap[w.heap.size+1]? = some (.cells #[di 0,.string m,.string n,dt,dt,dt] 176 (0,0))):=(i.block (w.heap.size+1) N7 N7).trans aG;obtain ⟨ab,F,J,U,aa,aB,bj⟩:=ha aZ;have al:Hid (dH R a q d (dC.setCell ⟨w.heap.size+1,0,none⟩ (di 2)) P.tail):=b3.setAbove z Ov _;have C:Hid (dK R w (dC.setCell ⟨w.heap.size+1,0,none⟩ (di 2))):=(T.trans i).set Ov _;have X:Hid ((dC.setCell ⟨w.heap.size+1,0,none⟩ (di 2)).heap[w.heap.size]? = some fU):=(eh OI _).trans t;have aV:Hid ((dC.setCell ⟨w.heap.size+1,0,none⟩ (di 2)).heap[w.heap.size+1]? = some (.cells #[di 2,.string m,.string n,dt,dt,dt] 176 (0,0))):=heap_set aZ _
   have bv:(dC.setCell ⟨w.heap.size+1,0,none⟩ (di 2)).heap.size=dC.heap.size:=O9
   clear b3 i t aY T O aG;go_wp2_with fail;generalize dC.setCell ⟨w.heap.size+1,0,none⟩ (di 2)=dD at *;clear ab F J U aa aB bj aZ;refine (rG R q a d ai P.tail dD al).mono ?_;rintro e dJ ⟨s,⟨Z,rfl⟩ | ⟨x,l5,v,Z,rfl,⟨V,av,rfl,a4,am,hx3⟩,az⟩⟩
   . exact ⟨rfl,C.trans s,Or.inl ⟨by rw [f.out,if_neg Qf,if_pos b1,Z],rfl⟩⟩
   have bV:=s.size
   have aR:Hid (hM l=if dG l5 oN then (if dG l5.tail pJ then (match pX l5.tail.tail with | none=>none | some (a3,D)=>some (.mk 2 m n [x,a3] [] [],D)) else none) else none):=by show hM l=_;rw [f.out,if_neg Qf,if_pos b1,Z]
   have bu:Hid (dJ.heap[w.heap.size]? = some fU):=(s.block w.heap.size N7 N7).trans X;have b9:Hid (dJ.heap[w.heap.size+1]? = some (.cells #[di 2,.string m,.string n,dt,dt,dt] 176 (0,0))):=(s.block (w.heap.size+1) N7 N7).trans aV;have ac:Hid (dK R w dJ):=C.trans s;have aI:Hid (dH R a q d dJ l5):=az;have aQ:Hid (eI dJ (dD.heap.size<=·) x.ds (pp x V av)):=rE a4 am hx3;obtain ⟨ab,F,J,U,aa,aB,bj⟩:=ha b9
   have aX:w.heap.size+1<dJ.heap.size:=N7
   clear Z s az a4 am hx3 X aV al C f;go_wp2_with fail;refine (nv R q _ a d l5 oN _ Ob ((aI.setAbove z Ov _).alloc _) N9).mono ?_;rintro e eD ⟨M,⟨ax,rfl⟩ | ⟨ax,rfl,aE⟩⟩
   . exact ⟨rfl,((ac.set Ov _).alloc _).trans M,Or.inl ⟨by rw [aR.out,ax];rfl,rfl⟩⟩
   have cc:=M.size;simp at cc
   have aT:Hid (Row (w.heap.size+2) 174 5 eD (.slice (some (dj dJ.heap.size 0)) 1 1) 1 x.ds):=by
    have e:=Row.first (y:=w.heap.size+2) (e:=174) (size:=5) (w:=dJ.setCell ⟨w.heap.size+1,3,none⟩ (.slice (some (dj dJ.heap.size 0)) 1 1)) (A:=(dD.heap.size<=·)) (ds:=x.ds) (cs:=#[di x.op,di x.n,.string x.mod,.string x.name,.slice V x.args.length av])
     (aQ.moves ((dU.refl dJ _).set O4 _)) (fun b _ I=>N7) Of rfl
    simp only [hk] at e;exact Row.keeps e M N7
   have bW:Hid (eD.heap[w.heap.size]? = some fU):=(M.block w.heap.size Of N7).trans (eR ((eh OI _).trans bu));have ah:Hid (eD.heap[w.heap.size+1]? = some (.cells #[di 2,.string m,.string n,.slice (some (dj dJ.heap.size 0)) 1 1,dt,dt] 176 (0,0))):=(M.block (w.heap.size+1) Of N7).trans (eR (heap_set b9 _));have aS:Hid (dK R w eD):=((ac.set Ov _).alloc _).trans M;have aU:Hid (dH R a q d eD l5.tail):=aE;clear aE M aI ac aQ bu b9 ab F J U aa aB bj;go_wp2_with fail;refine (nv R q _ a d l5.tail pJ _ Ob aU N9).mono ?_;rintro e eP ⟨c,⟨Y,rfl⟩ | ⟨Y,rfl,HR7⟩⟩
   . exact ⟨rfl,aS.trans c,Or.inl ⟨by rw [aR.out,ax,Y];rfl,rfl⟩⟩
   have cd:=c.size;have aK:Hid (Row (w.heap.size+2) 174 5 eP (.slice (some (dj dJ.heap.size 0)) 1 1) 1 x.ds):=aT.keeps c N7;have ak:Hid (eP.heap[w.heap.size]? = some fU):=(c.block w.heap.size N7 N7).trans bW;have ag:Hid (eP.heap[w.heap.size+1]? = some (.cells #[di 2,.string m,.string n,.slice (some (dj dJ.heap.size 0)) 1 1,dt,dt] 176 (0,0))):=(c.block (w.heap.size+1) N7 N7).trans ah;have aF:Hid (dK R w eP):=aS.trans c;have aJ:Hid (dH R a q d eP l5.tail.tail):=HR7
   have ap:Hid (hM l=match pX l5.tail.tail with | none=>none | some (a3,D)=>some (.mk 2 m n [x,a3] [] [],D)):=by show hM l=_;rw [aR.out,ax,Y];rfl
   obtain ⟨ab,F,J,U,aa,aB,bj⟩:=ha ag;clear HR7 c aU aS bW ah aT aR ax Y
   cases S:pX l5.tail.tail with
   | none=>
     have aP:Hid (∀ G,dH R a q d G l5.tail.tail->dw 283 #[dF R 0] G fun e a7=>e = .panicked iQ/\dK R G a7):=fun G a5=>by
      refine (rG R q a d ai _ G a5).mono ?_;rintro e a7 ⟨N,⟨_,rfl⟩ | ⟨_,_,_,h,_⟩⟩
      . exact ⟨rfl,N⟩
      . rw [S] at h;cases h
     have A:Hid (hM l=none):=by show hM l=_;rw [ap.out,S]
     clear S ap;go_wp2_with fail;refine wp_region_any (by kernel_rfl) ?_
     change wpAny _ _ _ _ _ _ _ (World.drew _)
     refine wpAny_take (i:=2) (v:=dF R 0) rfl (by kernel_rfl) (by kernel_rfl) (by kernel_rfl) (fun an a w h=>h) (Or.inl ⟨Oq,fun w=>by go_simp⟩) ?_;refine wpAny_take (i:=0) (v:=.pointer (some ⟨w.heap.size+1,3,none⟩)) rfl (by kernel_rfl) (by kernel_rfl) (by kernel_rfl) (fun an a w h=>h) (Or.inl ⟨Oq,fun w=>by go_simp⟩) ?_;refine wpAny_ready (rs:=[1,3]) (by kernel_rfl) Ob ?_;refine nk rfl (fun K aO=>?_) (nk rfl (fun K aO=>?_) qj)
     . go_simp
       refine aO _ _ ?_;clear aO K;refine wpAny_ready (rs:=[3]) (by kernel_rfl) Ob ?_;refine nk rfl (fun K aO=>?_) qj;refine BF Oq 283 _ _ Oq xc _ Oq iQ (aP _ aJ.drew) ?_;exact SZ
     . refine BF Oq 283 _ _ Oq xc _ Oq iQ (aP _ aJ.drew) ?_
       exact SZ
   | some r=>
     obtain ⟨a3,H⟩:=r
     have aP:Hid (∀ G,dH R a q d G l5.tail.tail->dw 283 #[dF R 0] G fun e a7=>∃ u,e = .returned u/\(dK R G a7/\k4 (G.heap.size<=·) a3 a7 u/\dH R a q d a7 H)):=fun G a5=>by
      refine (rG R q a d ai _ G a5).mono ?_;exact Ri
     have A:Hid (hM l=some (.mk 2 m n [x,a3] [] [],H)):=by show hM l=_;rw [ap.out,S]
     clear S ap;go_wp2_with fail
     go_region_law (first
      | (refine uI Oq 283 _ _ Oq xc _ Oq (aP _ aJ.drew) ?_
         rintro u8 bw ⟨o,⟨a8,c8,rfl,a0,a6,aj⟩,ae⟩;have cl:eP.heap.size<=bw.heap.size:=o.size
         have bk:w.heap.size+1<bw.heap.size:=N7
         have k:Hid (bw.heap[w.heap.size+1]? = some (.cells #[di 2,.string m,.string n,.slice (some (dj dJ.heap.size 0)) 1 1,dt,dt] 176 (0,0))):=(o.block (w.heap.size+1) (show w.heap.size+1<eP.heap.size by omega) N7).trans ag;have af:Hid (bw.heap[w.heap.size]? = some fU):=(o.block w.heap.size (show w.heap.size<eP.heap.size by omega) N7).trans ak;have bJ:bw.cell? ⟨w.heap.size+1,3,none⟩=some (.slice (some (dj dJ.heap.size 0)) 1 1):=(o.cell (show w.heap.size+1<eP.heap.size by omega) N7).trans U
         have aN:Hid (Row (w.heap.size+2) 174 5 bw (.slice (some (dj dJ.heap.size 0)) 1 1) 1 x.ds):=(aK.keeps (dK.refl R eP).drew N7).keeps o N7)
      | (refine BB Oq _ _ 172 Oq (w.heap.size+2) 174 _ 5 72 Tryz.underlying172 Tryz.infoP80 rfl N9 bw _ 1 x.ds a3.ds Oq aN _ _ rfl Oq rfl (eP.heap.size<=·) (rE a0 a6 aj) (fun b _ I=>⟨N7,fun h=>by have a5:dJ.heap.size=b:=eX h;omega⟩) N7 N9 N7 ?_
         intro E aw ar aM p bm;have aL:Hid (ar.heap[w.heap.size+1]? = some (.cells #[di 2,.string m,.string n,.slice (some (dj dJ.heap.size 0)) 1 1,dt,dt] 176 (0,0))):=(p.block (w.heap.size+1) N7).trans k;have aW:Hid (ar.heap[w.heap.size]? = some fU):=(p.block w.heap.size N7).trans af;obtain ⟨g,a9,au,bn,aH,k5,k6⟩:=ha aL;obtain ⟨b0,bB,bH,bR,bN,m5,m6⟩:=ha aW
         have b5:w.heap.size≠w.heap.size+1:=N7
         have aD:Hid (fL R a q d w (hM l) (kF (w.heap.size<=·)) (.returned (.agg #[di 2,.string m,.string n,.slice (some (dj E 0)) 2 aw,dt,dt])) (set6 (ar.setCell ⟨w.heap.size+1,3,none⟩ (.slice (some (dj E 0)) 2 aw)) w.heap.size (di 2) (.string m) (.string n) (.slice (some (dj E 0)) 2 aw) (dt) (dt))):=Iw z A (aF.drew.trans o) ae a1 aA p aM))
     all_goals
      go_wp2_with fail;refine bodyPost_ret (v:=.agg #[di 2,.string m,.string n,.slice (some (dj E 0)) 2 aw,dt,dt]) (by simp [results,results285,go_sem,b0,bB,bH,bR,bN,m5]) rfl aD
 . have bX:=i.size
   have t:Hid (dC.heap[w.heap.size]? = some fU):=(i.block w.heap.size N7 N7).trans O;have aZ:Hid (dC.heap[w.heap.size+1]? = some (.cells #[di 0,.string m,.string n,dt,dt,dt] 176 (0,0))):=(i.block (w.heap.size+1) N7 N7).trans aG;obtain ⟨ab,F,J,U,aa,aB,bj⟩:=ha aZ;have al:Hid (dH R a q d (dC.setCell ⟨w.heap.size+1,0,none⟩ (di 3)) P.tail):=b3.setAbove z Ov _;have C:Hid (dK R w (dC.setCell ⟨w.heap.size+1,0,none⟩ (di 3))):=(T.trans i).set Ov _;have X:Hid ((dC.setCell ⟨w.heap.size+1,0,none⟩ (di 3)).heap[w.heap.size]? = some fU):=(eh OI _).trans t;have aV:Hid ((dC.setCell ⟨w.heap.size+1,0,none⟩ (di 3)).heap[w.heap.size+1]? = some (.cells #[di 3,.string m,.string n,dt,dt,dt] 176 (0,0))):=heap_set aZ _
   have bv:(dC.setCell ⟨w.heap.size+1,0,none⟩ (di 3)).heap.size=dC.heap.size:=O9
   clear b3 i t aY T O aG;go_wp2_with fail;generalize dC.setCell ⟨w.heap.size+1,0,none⟩ (di 3)=dD at *;clear ab F J U aa aB bj aZ;refine (Ir R q a d ai P.tail dD al).mono ?_;rintro e dJ ⟨s,⟨Z,rfl⟩ | ⟨ao,l5,v,Z,rfl,⟨V,av,rfl,hx3⟩,az⟩⟩
   . exact ⟨rfl,C.trans s,Or.inl ⟨by rw [f.out,if_neg Qf,if_neg (by simp [b1]),if_pos eU,Z],rfl⟩⟩
   have bV:=s.size
   have A:Hid (hM l=some (.mk 3 m n ao [] [],l5)):=by show hM l=_;rw [f.out,if_neg Qf,if_neg (by simp [b1]),if_pos eU,Z]
   have bu:Hid (dJ.heap[w.heap.size]? = some fU):=(s.block w.heap.size N7 N7).trans X;have b9:Hid (dJ.heap[w.heap.size+1]? = some (.cells #[di 3,.string m,.string n,dt,dt,dt] 176 (0,0))):=(s.block (w.heap.size+1) N7 N7).trans aV
   have aD:Hid (fL R a q d w (hM l) (kF (w.heap.size<=·)) (.returned (.agg #[di 3,.string m,.string n,.slice V ao.length av,dt,dt])) (set6 (dJ.setCell ⟨w.heap.size+1,3,none⟩ (.slice V ao.length av)) w.heap.size (di 3) (.string m) (.string n) (.slice V ao.length av) (dt) (dt))):=by
    refine sU (s:=.mk 3 m n ao [] []) A (((C.trans s).set Ov _).set6 (dA _) _ _ _ _ _ _) ((az.setAbove z Ov _).set6 z (dA _) _ _ _ _ _ _) a1 aA ?_ (Or.inl rfl) (Or.inl rfl);exact hx3.moves ((((dU.refl dJ _).set O4 _).set6 (b:=w.heap.size) PF _ _ _ _ _ _).to N7)
   obtain ⟨ab,F,J,U,aa,aB,bj⟩:=ha bu;obtain ⟨bU,bd,bs,bI,bM,bL,g6⟩:=ha b9;clear Z s az hx3 X aV al C;go_wp2_with fail;refine bodyPost_ret (v:=.agg #[di 3,.string m,.string n,.slice V ao.length av,dt,dt]) (by simp [results,results285,go_sem,ab,F,J,U,aa,aB]) rfl aD
theorem Iy (h:hM l=some (s,L)):L.length<l.length:=by
 unfold hM at h
 split at h
 . cases h
 rename_i m n P F
 have:=x8 F
 split at h
 . rename_i a8
   have:=f9 N9 a8
   split at h
   . cases h
   rename_i x j J
   have:=pK J;exact R5
 split at h
 . rename_i a8
   have:=f9 N9 a8
   split at h
   . cases h
   rename_i x j J
   have:=pK J
   split at h
   . rename_i r
     have:=f9 N9 r
     split at h
     . rename_i g
       have:=f9 N9 g
       split at h
       . cases h
       rename_i a3 D U
       have:=pK U;exact R5
     . cases h
   . cases h
 split at h
 . rename_i a8
   have:=f9 N9 a8
   split at h
   . cases h
   rename_i x j J
   have:=JT J;exact R5
 . cases h
theorem xd {n:Nat} (h:mU r=some (s,L)) (Q:∀ s l,r=some (s,l)->l.length<n):L.length<n:=by
 unfold mU at h
 split at h
 . cases h
 . rename_i ay P
   have:=Q ay P rfl
   split at h
   . rename_i a8
     have:=f9 N9 a8;exact R5
   . cases h
def kG (f:Nat) (l:List Tk):Option (St × List Tk):=
 match pX l with
 | none=>none
 | some (x,P)=>match iE f P with
   | none=>none
   | some (b,j)=>if dG j r2 then (match iE f j.tail with | none=>none | some (o,D)=>if o.length=0 then none else some (.mk 4 ⟨#[]⟩ ⟨#[]⟩ [x] b o,D))
     else some (.mk 4 ⟨#[]⟩ ⟨#[]⟩ [x] b [],j)
theorem BI {f:Nat} (h:dG l pI=true):jr (f+1) l=kG f l.tail:=by
 unfold jr;rw [if_pos h];rfl
theorem xe {f:Nat} (h:dG l pI=false) (F:dG l oK=false) (J:dG l oL=false) (U:dG l qI=true):jr (f+1) l=mU (match pX l.tail with | none=>none | some (x,P)=>some (.mk 7 ⟨#[]⟩ ⟨#[]⟩ [x] [] [],P)):=by
 unfold jr;rw [if_neg (by simp [h]),if_neg (by simp [F]),if_neg (by simp [J]),if_pos U];rfl
theorem xf {f:Nat} (h:dG l pI=false) (F:dG l oK=false) (J:dG l oL=false) (U:dG l qI=false):jr (f+1) l=mU (hM l):=by
 unfold jr;rw [if_neg (by simp [h]),if_neg (by simp [F]),if_neg (by simp [J]),if_neg (by simp [U])]
mutual
theorem BJ:∀ (f:Nat) (l L:List Tk) (s:St),jr f l=some (s,L)->L.length<l.length
 | 0,_,_,_,h=>by simp [jr] at h
 | f + 1,l,L,s,h=>by
   unfold jr at h
   split at h
   . rename_i a8
     have:=f9 N9 a8
     split at h
     . cases h
     rename_i x P F
     have:=pK F
     split at h
     . cases h
     rename_i b j J
     have:=uJ f _ _ _ J
     split at h
     . rename_i r
       have:=f9 N9 r
       split at h
       . cases h
       rename_i o D U
       have:=uJ f _ _ _ U
       split at h
       . cases h
       . obtain ⟨_,rfl⟩:=g0 (eX h)
         omega
     . obtain ⟨_,rfl⟩:=g0 (eX h)
       omega
   split at h
   . rename_i a8
     have:=f9 N9 a8
     split at h
     . cases h
     rename_i x P F
     have:=pK F
     split at h
     . cases h
     rename_i b j J
     have:=uJ f _ _ _ J;obtain ⟨_,rfl⟩:=g0 (eX h);omega
   split at h
   . rename_i a8
     have:=f9 N9 a8;refine xd h ?_;intro s j J
     split at J
     . cases J
     rename_i x P F
     have:=pK F;obtain ⟨_,rfl⟩:=g0 (eX J);omega
   split at h
   . rename_i a8
     have:=f9 N9 a8;refine xd h ?_;intro s j J
     split at J
     . cases J
     rename_i x P F
     have:=pK F;obtain ⟨_,rfl⟩:=g0 (eX J);omega
   . exact xd h fun s j J=>Iy J
theorem uJ:∀ (f:Nat) (l L:List Tk) (b:List St),iE f l=some (b,L)->L.length<l.length
 | 0,_,_,_,h=>by simp [iE] at h
 | f + 1,l,L,s,h=>by
   unfold iE at h
   split at h
   . rename_i a8
     have:=f9 N9 a8;have:=BK f _ _ _ _ h;omega
   . cases h
theorem BK:∀ (f:Nat) (H:List St) (l L:List Tk) (b:List St),mj f H l=some (b,L)->L.length<l.length
 | 0,_,_,_,_,h=>by simp [mj] at h
 | f + 1,H,l,L,b,h=>by
   unfold mj at h
   split at h
   . rename_i a8
     obtain ⟨_,rfl⟩:=g0 (eX h);exact f9 N9 a8
   split at h
   . cases h
   . rename_i s P F
     have:=BJ f _ _ _ F;have:=BK f _ _ _ _ h;omega
end
structure qq (R cap:Nat) (a:OA) (ts:List Tk) (f:Nat):Prop where
 stmt:∀ (l:List Tk) (w:World),dH R a cap ts w l->3*l.length+1<=f->dw 254 #[dF R 0] w (fL R a cap ts w (jr f l) (kF (w.heap.size<=·)))
 block:∀ (l:List Tk) (w:World),dH R a cap ts w l->3*l.length+1<=f->dw 201 #[dF R 0] w (fL R a cap ts w (iE f l) (w9 (w.heap.size<=·)))
theorem Iz (R q:Nat) (a:OA) (d:List Tk) (f:Nat) (u:∀ g,g<=f->qq R q a d g) (l:List Tk) (w:World) (h:dH R a q d w l) (Y:3*l.length+1<=f+1) :
 dw 201 #[dF R 0] w (fL R a q d w (iE (f+1) l) (w9 (w.heap.size<=·))):=by
 have y:Hid (∀ g,g<=f->qq R q a d g):=u;have z:Hid (dH R a q d w l):=h;have ad:=h.lt
 have bb:l.length<=4096:=by
  exact R8
 clear u h;go_enter func201,ntmps201;go_wp2_with fail;refine (nv R q _ a d l sa _ rfl z N9).mono ?_;rintro e dk ⟨W,⟨a8,rfl⟩ | ⟨a8,rfl,b4⟩⟩
 . exact ⟨rfl,W,Or.inl ⟨by unfold iE;rw [if_neg (by simp [a8])],rfl⟩⟩
 have bg:=f9 N9 a8
 have A:Hid (iE (f+1) l=mj f [] l.tail):=by show iE (f+1) l=_;unfold iE;rw [if_pos a8]
 have n:Hid (dH R a q d dk l.tail):=b4;have a2:Hid (dK R w dk):=W;have ba:=W.size;clear b4 W a8;go_wp2_with fail
 go_loopw [3] (fun v wr=>∃ (g:Nat) (H:List St) (L:List Tk),g<=f/\iE (f+1) l=mj g H L/\3*L.length+2<=g/\H.length+L.length<=l.length/\Row w.heap.size 176 6 wr v H.length (eE H)/\dH R a q d wr L/\dK R w wr) (fun _ wr=>ny R d.length wr)
 case atStart=>exact ⟨f,[],l.tail,dA _,A,N7,Ob,Row.nil _ _ _ _,n,a2⟩
 case round=>
  obtain ⟨g,H,L,ak,hpm,b1,hacc,b5,D,ag⟩:=hrel;have bz:Hid (iE (f+1) l=mj g H L):=hpm;have P:Hid (Row w.heap.size 176 6 wr u3 H.length (eE H)):=b5;have b0:Hid (dH R a q d wr L):=D;have aP:Hid (dK R w wr):=ag;have bj:=ag.size
  obtain ⟨g,rfl⟩:∃ ac,g=ac+1:=⟨g - 1,N7⟩
  clear hpm b5 D ag A;go_wp2_with fail
  by_cases a8:dG L oM=true
  . have A:Hid (iE (f+1) l=some (H,L.tail)):=by show iE (f+1) l=_;rw [bz.out];unfold mj;rw [if_pos a8]
    refine (lx R q a d L oM wr N9 b0 a8).mono ?_;rintro e dC ⟨rfl,b3,i⟩;have aM:Hid (Row w.heap.size 176 6 dC u3 H.length (eE H)):=P.keeps i ad;exact Ss
  refine (kE R q a d L oM wr b0 (by simpa using a8)).mono ?_;rintro e dC ⟨rfl,b3,i⟩;have bX:=i.size;go_wp2_with fail;refine ((y g N7).stmt L dC b3 N7).mono ?_;rintro e dD ⟨C,⟨Z,rfl⟩ | ⟨a3,l4,v,Z,rfl,⟨E,ah,a0,ae,a6,c3,rfl,a4,am,hx3,a5,hx5⟩,al⟩⟩
  . exact ⟨rfl,(aP.trans i).trans C,Or.inl ⟨by rw [bz.out];unfold mj;rw [if_neg a8,Z],rfl⟩⟩
  have b8:=BJ _ _ _ _ Z
  have A:Hid (iE (f+1) l=mj g (H++[a3]) l4):=by show iE (f+1) l=_;rw [bz.out];unfold mj;rw [if_neg a8,Z];cases g<;>rfl
  have b7:Hid (eI dD (dC.heap.size<=·) a3.ds (BG a3 E ah a0 ae a6 c3)):=Is a4 am hx3 a5 hx5;have S:Hid (dH R a q d dD l4):=al;have Q:Hid (dK R w dD):=(aP.trans i).trans C;have F:Hid (Row w.heap.size 176 6 dD u3 H.length (eE H)):=(P.keeps i ad).keeps C ad;have bv:=C.size
  have b2:Hid (∀ k,u3.ownBlock=some k->k<dC.heap.size):=fun k N=>((P.keeps i ad).lt k N).2
  have K:=b0.left;clear Z b3 al i C a4 am hx3 a5 hx5 a8
  go_wp2_with (at_builtin;refine nx rfl (.tmp 10) (.tmp 13) 25 rfl w.heap.size 176 _ 6 112 Tryz.underlying25 Tryz.infoP48 rfl N9 dD u3 H.length (eE H) a3.ds rfl F _ _ rfl rfl rfl (dC.heap.size<=·) b7 ?_ N7 N9 N7 ?_)
  . intro b _ I
    exact ⟨N7,fun h=>by have:=b2 b h;omega⟩
  . intro bL av dJ bP bu bV
    have T:Hid (Row w.heap.size 176 6 dJ (.slice (some (dj bL 0)) (H.length+1) av) (H.length+1) (eE H++a3.ds)):=bP;have az:Hid (dH R a q d dJ l4):=S.belowOf z bu;have s:Hid (dK R w dJ):=Q.belowOf bu;have aV:=az.left;clear bP bu F S Q b7;go_wp2_with fail;go_roundw
    case rel=>exact ⟨g,H++[a3],l4,N7,A,N7,Of,by rw [BV,Ji,eM];exact T,az,s⟩
    case measure=>rw [aV,K];omega
end Go.Proofs.YtndkhgakfodldaaGreatDoor
