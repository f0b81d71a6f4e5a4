/-
  The writer: procedures.
-/
import Derived.Test.YtcekpobmbmnplaaGreatDoorSg
namespace Go.Proofs.YtcekpobmbmnplaaGreatDoor
set_option maxRecDepth 100000
set_option maxHeartbeats 3200000
open Go.RowKit Go.Shelf
theorem zlf (l:List ByteArray) (k:Nat):(zaz (l.take k)).length<=(zaz l).length:=by
 unfold zaz;have:=zi2 ((l.take k).map (fun n=>[wTk n])) ((l.drop k).map (fun n=>[wTk n]));rw [← List.map_append,List.take_append_drop] at this;exact this
theorem zs8 {l:List ByteArray} {k:Nat} (h:k<l.length) (h0:0<k):zaz (l.take (k+1))=zaz (l.take k)++[kTk tCom,wTk l[k]]:=by
 unfold zaz;rw [List.take_succ_eq_append_getElem h,List.map_append,show [l[k]].map (fun n=>[wTk n])=[[wTk l[k]]] from rfl]
 exact ze1 _ _ (fun e=>by
  have:=congrArg List.length e;simp at this
  rcases this with h' | h'
  . omega
  . rw [h'] at h;simp at h)
theorem zqp {l:List ByteArray} (h:0<l.length):zaz (l.take 1)=[wTk l[0]]:=by
 cases l with
 | nil=>simp at h
 | cons x r=>rfl
theorem zrz (t:ByteArray) {l:List ByteArray} {k:Nat} (h:k<l.length):zb8 t (l.take (k+1))=zb8 t (l.take k)++[kTk t,wTk l[k],kTk tSem]:=by
 unfold zb8
 rw [List.take_succ_eq_append_getElem h,List.flatMap_append];rfl
theorem zjc (t:ByteArray) (l:List ByteArray) (k:Nat):(zb8 t (l.take k)).length<=(zb8 t l).length:=by
 have:zb8 t l=zb8 t (l.take k)++zb8 t (l.drop k):=by unfold zb8;rw [← List.flatMap_append,List.take_append_drop]
 rw [this,List.length_append];omega
theorem z2h (nm:ByteArray) (p:Bool) (ps ls:List ByteArray) (bd:List St) (hn:zae nm=true) (hps:∀ t ∈ ps,zae t=true) (hls:∀ t ∈ ls,zae t=true) (hWB:WrB bd) (rb:zam (brT (tSs bd))) (b:Nat) (ts:List Tk) (v0:Value) (W:World) (a1 a2 a3:Option Addr) (c1 c2 c3:Nat) (h:Wr b ts v0 W) (hA:DAt W (Off b v0) a1 ps.length (zax ps)) (hB:DAt W (Off b v0) a2 ls.length (zax ls)) (hO:DAt W (Off b v0) a3 bd.length (za0 bd)) (hl:ts.length+(tP ⟨nm,p,ps,ls,bd⟩).length<=4000000000000) :
 Calls Tryz.prog 61 #[.pointer (some ⟨b,0,none⟩),.agg #[.string nm,.bool p,.slice a1 ps.length c1,.slice a2 ls.length c2,.slice a3 bd.length c3]] W (zqn b ts v0 W (tP ⟨nm,p,ps,ls,bd⟩)):=by
 have HE:Hid (tP ⟨nm,p,ps,ls,bd⟩=pubT p++[pTk tProc,pTk nm,pTk tLp]++zaz ps++[pTk tRp]++zb8 zar ls++brT (tSs bd)):=by
  show _=_
  rw [pn hn,pk (t:=tProc) (by decide),pk (t:=tLp) (by decide),pk (t:=tRp) (by decide)];simp [tP]
 have hl2:ts.length+(pubT p).length+(zaz ps).length+(zb8 zar ls).length+(tSs bd).length+6<=4000000000000:=by
  unfold tP brT at hl;simp only [List.length_append,List.length_cons,List.length_nil] at hl;omega
 have hnf:=zeg hn;have HPs:=hid hps;have HLs:=hid hls;have HWB:=hid hWB;have HRb:=hid rb
 have HRD:Hid (zam (pubT p++[pTk tProc,pTk nm,pTk tLp]++zaz ps++[pTk tRp]++zb8 zar ls)):=by
  refine zam.append (zam.append (zam.append (zam.append (zz5 _) (.cons (zgs (by decide)) (.cons (by rw [pn hn];exact zgc hn) (zgs (by decide))))) (znh hps)) (zgs (by decide))) (zvp (zby (by decide)) hls)
 have HCm:Hid (pTk tCom=kTk tCom):=pk (by decide)
 have HKl:Hid (pTk zar=kTk zar/\pTk tSem=kTk tSem):=⟨pk (by decide),pk (by decide)⟩
 have hbd1:=hA.bound;have hbd2:=hB.bound;clear hps hls hWB rb hl
 obtain ⟨W0,hW0⟩:∃ W0,W0=W.alloc (.cells #[.string nm,.bool p,.slice a1 ps.length c1,.slice a2 ls.length c2,.slice a3 bd.length c3] 60):=⟨_,rfl⟩
 obtain ⟨x0_0,x1_0,x2_0,x3_0,x4_0⟩:=zwb W (.string nm) (.bool p) (.slice a1 ps.length c1) (.slice a2 ls.length c2) (.slice a3 bd.length c3) 60;rw [← hW0] at x0_0 x1_0 x2_0 x3_0 x4_0
 have H0:Hid (Wr b (ts++[]) v0 W0):=by
  rw [hW0,List.append_nil];exact h.alloc _
 have K0:Hid (WK b v0 v0 W W0):=by rw [hW0];exact WK.of_below (al1 _ _) b v0
 have hz0:W0.heap.size=W.heap.size+1:=by rw [hW0];simp
 have hlt0:b<W0.heap.size:=H0.out.lt;have hf0:Hid (Off b v0 W.heap.size):=h.own (Nat.le_refl _)
 have hx0:W.heap.size<W0.heap.size:=by omega
 have DA0:Hid (DAt W0 (Off b v0) a1 ps.length (zax ps)):=by rw [hW0];exact hA.moves (Moves.of_below (al1 _ _) _)
 have DB0:Hid (DAt W0 (Off b v0) a2 ls.length (zax ls)):=by rw [hW0];exact hB.moves (Moves.of_below (al1 _ _) _)
 have DO0:Hid (DAt W0 (Off b v0) a3 bd.length (za0 bd)):=by rw [hW0];exact hO.moves (Moves.of_below (al1 _ _) _)
 clear h hA hB hO;generalize hkb:W.heap.size=kb at *;go_enter Tryz.func61,Tryz.ntmps61;go_upto_region 1 with fail;rw [← hW0];clear hW0;go_wp2_with fail;refine (zx3 p b _ v0 W0 H0.out (by simp;omega)).mono ?_;rintro e W1 ⟨v1,rfl,hh,kk⟩;have DA1:=hid (DA0.out.moves kk.moves);have DB1:=hid (DB0.out.moves kk.moves);have DO1:=hid (DO0.out.moves kk.moves);obtain ⟨H1,K1,hlt1,hz1,x0_1,x1_1,x2_1,x3_1,x4_1,hf1,hx1⟩:=w5 hh kk K0 hx0 hf0 x0_0 x1_0 x2_0 x3_0 x4_0;clear hh kk x0_0 x1_0 x2_0 x3_0 x4_0;go_wp2_with fail;refine (z0s b _ tProc nm tLp _ v1 W1 (by omega) H1.out (by decide) hnf (by decide) (by simp;omega)).mono ?_;rintro e W2 ⟨v2,rfl,hh,kk⟩;have DA2:=hid (DA1.out.moves kk.moves);have DB2:=hid (DB1.out.moves kk.moves);have DO2:=hid (DO1.out.moves kk.moves);obtain ⟨H2,K2,hlt2,hz2,x0_2,x1_2,x2_2,x3_2,x4_2,hf2,hx2⟩:=w5 hh kk K1 hx1 hf1 x0_1 x1_1 x2_1 x3_1 x4_1
 clear hh kk x0_1 x1_1 x2_1 x3_1 x4_1;go_wp2_with fail
 go_loopw [20,4,5] (fun i _ _ wr=>∃ (k:Nat) (vr:Value),k<=ps.length/\i = .int .i64 k/\Wr b (ts++(pubT p++[pTk tProc,pTk nm,pTk tLp]++zaz (ps.take k))) vr wr/\WK b v2 vr W2 wr) (fun i _ _ _=>ps.length - (intOf i).toNat)
 case atStart=>exact ⟨0,v2,Nat.zero_le _,rfl,by simpa [zaz,commas] using H2.out,WK.refl _ _ _⟩
 case round=>
  obtain ⟨k,vr,hk,rfl,hW,hK⟩:=hrel;have HW:=hid hW;have HK:=hid hK;have hltr:=hW.lt;have HLn:=zlf ps (k+1)
  by_cases hkl:k<ps.length
  . obtain ⟨ub,uo,rfl,hul,huc,hus⟩:=(DA2.out.moves hK.moves).str k hkl
    have hkn:=HPs.out ps[k] (List.getElem_mem hkl);have hkf:=zeg hkn;have HPk:=hid (pn hkn)
    by_cases hk0:k=0
    . have hk0':decide (0<k)=false:=decide_eq_false (by omega)
      have HT:Hid (zaz (ps.take (k+1))=[wTk ps[k]]/\zaz (ps.take k)=[]):=by
       subst hk0;exact ⟨zqp hkl,rfl⟩
      rw [HT.out.2] at HW;clear hW hK hk0 hkn;go_wp2_with fail;refine (zg7 b _ ps[k] _ vr wr (by omega) HW.out hkf (by simp;omega)).mono ?_;rintro e W5 ⟨v5,rfl,hh,kk⟩
      have H5:Hid (Wr b (ts++(pubT p++[pTk tProc,pTk nm,pTk tLp]++zaz (ps.take (k+1)))) v5 W5):=by
       show Wr _ _ _ _;rw [HT.out.1,← HPk.out];have:=hh;simpa using this
      have K5:=hid (HK.out.trans kk);clear hh kk;go_wp2_with fail;go_roundw
      case rel=>exact ⟨k+1,v5,by omega,by go_num,H5.out,K5.out⟩
      case measure=>simp [intOf];omega
    . have hk0':0<k:=by omega
      have HT:Hid (zaz (ps.take (k+1))=zaz (ps.take k)++[kTk tCom,wTk ps[k]]):=zs8 hkl (by omega)
      have hll:(zaz (ps.take k)).length+2<=(zaz ps).length:=by
       rw [HT.out] at HLn;simp only [List.length_append,List.length_cons,List.length_nil] at HLn;omega
      clear hW hK hkn HLn;go_wp2_with fail;refine (zg7 b _ tCom _ vr wr (by omega) HW.out (by decide) (by simp;omega)).mono ?_;rintro e W4 ⟨v4,rfl,hh,kk⟩;have H4:=hid hh;have K4:=hid (HK.out.trans kk);have hz4:=kk.size;have hlt4:=hh.lt;clear hh kk;go_wp2_with fail;refine (zg7 b _ ps[k] _ v4 W4 (by omega) H4.out hkf (by simp;omega)).mono ?_;rintro e W5 ⟨v5,rfl,hh,kk⟩
      have H5:Hid (Wr b (ts++(pubT p++[pTk tProc,pTk nm,pTk tLp]++zaz (ps.take (k+1)))) v5 W5):=by
       show Wr _ _ _ _;rw [HT.out,← HPk.out,← HCm.out];have:=hh;simpa using this
      have K5:=hid (K4.out.trans kk);clear hh kk;go_wp2_with fail;go_roundw
      case rel=>exact ⟨k+1,v5,by omega,by go_num,H5.out,K5.out⟩
      case measure=>simp [intOf];omega
  . have hke:ps.take k=ps:=List.take_of_length_le (by omega)
    rw [hke] at HW;have x0_3:=(hK.cell (off:=0) hx2 hf2.out).trans x0_2;have x3_3:=(hK.cell (off:=3) hx2 hf2.out).trans x3_2;have x4_3:=(hK.cell (off:=4) hx2 hf2.out).trans x4_2;have hx3:kb<wr.heap.size:=Nat.lt_of_lt_of_le hx2 hK.size;have hf3:=hid (hK.off hx2 hf2.out);have DB3:=hid (DB2.out.moves hK.moves);have DO3:=hid (DO2.out.moves hK.moves);have K3:=hid (K2.out.trans hK);clear hW hK HLn hke HPs HCm x0_2 x1_2 x2_2 x3_2 x4_2 DA2 DB2 DO2;go_wp2_with fail;refine (zg7 b _ tRp _ vr wr (by omega) HW.out (by decide) (by simp;omega)).mono ?_;rintro e W4 ⟨v4,rfl,hh,kk⟩
    have H4:Hid (Wr b (ts++(pubT p++[pTk tProc,pTk nm,pTk tLp]++zaz ps++[pTk tRp])) v4 W4):=by
     have:=hh;rw [List.append_assoc] at this;exact this
    have K4:=hid (K3.out.trans kk);have x3_4:=(kk.cell (off:=3) hx3 hf3.out).trans x3_3;have x4_4:=(kk.cell (off:=4) hx3 hf3.out).trans x4_3;have hx4:kb<W4.heap.size:=Nat.lt_of_lt_of_le hx3 kk.size;have hf4:=hid (kk.off hx3 hf3.out);have DB4:=hid (DB3.out.moves kk.moves);have DO4:=hid (DO3.out.moves kk.moves);have hz4:=kk.size;have hlt4:=hh.lt;clear hh kk x0_3 x3_3 x4_3 DB3 DO3;go_wp2_with fail
    go_loopw [41,7] (fun i _ wr=>∃ (k:Nat) (vr:Value),k<=ls.length/\i = .int .i64 k/\Wr b (ts++(pubT p++[pTk tProc,pTk nm,pTk tLp]++zaz ps++[pTk tRp]++zb8 zar (ls.take k))) vr wr/\WK b v4 vr W4 wr) (fun i _ _=>ls.length - (intOf i).toNat)
    case atStart=>exact ⟨0,v4,Nat.zero_le _,rfl,by simpa [zb8] using H4.out,WK.refl _ _ _⟩
    case round=>
     obtain ⟨k,vr,hk,rfl,hW,hK⟩:=hrel;have HW:=hid hW;have HK:=hid hK;have hltr:=hW.lt;have HLn:=zjc zar ls (k+1)
     by_cases hkl:k<ls.length
     . obtain ⟨ub,uo,rfl,hul,huc,hus⟩:=(DB4.out.moves hK.moves).str k hkl
       have hkn:=HLs.out ls[k] (List.getElem_mem hkl);have hkf:=zeg hkn;have HPk:=hid (pn hkn);have HT:Hid (zb8 zar (ls.take (k+1))=zb8 zar (ls.take k)++[kTk zar,wTk ls[k],kTk tSem]):=zrz zar hkl
       have hll:(zb8 zar (ls.take k)).length+3<=(zb8 zar ls).length:=by
        rw [HT.out] at HLn;simp only [List.length_append,List.length_cons,List.length_nil] at HLn;omega
       clear hW hK hkn HLn;go_wp2_with fail;refine (z0s b _ zar ls[k] tSem _ vr wr (by omega) HW.out (by decide) hkf (by decide) (by simp;omega)).mono ?_;rintro e W6 ⟨v6,rfl,hh,kk⟩
       have H6:Hid (Wr b (ts++(pubT p++[pTk tProc,pTk nm,pTk tLp]++zaz ps++[pTk tRp]++zb8 zar (ls.take (k+1)))) v6 W6):=by
        show Wr _ _ _ _;rw [HT.out,← HPk.out,← HKl.out.1,← HKl.out.2];have:=hh;simpa using this
       have K6:=hid (HK.out.trans kk);clear hh kk;go_wp2_with fail;go_roundw
       case rel=>exact ⟨k+1,v6,by omega,by go_num,H6.out,K6.out⟩
       case measure=>simp [intOf];omega
     . have hke:ls.take k=ls:=List.take_of_length_le (by omega)
       rw [hke] at HW;have x4_5:=(hK.cell (off:=4) hx4 hf4.out).trans x4_4;have hx5:kb<wr.heap.size:=Nat.lt_of_lt_of_le hx4 hK.size;have DO5:=hid (DO4.out.moves hK.moves);have K5:=hid (K4.out.trans hK);clear hW hK HLn hke;go_wp2_with fail;refine (HWB.out b _ vr wr a3 c3 HW.out DO5.out (by unfold brT;simp;omega)).mono ?_;rintro e W7 ⟨T7,v7,rfl,hh,kk,hc⟩;have H7:=hid hh;have K7:=hid (K5.out.trans kk)
       have C7:Hid (Cut (tP ⟨nm,p,ps,ls,bd⟩) ts T7):=by
        show Cut _ _ _;rw [HE.out];exact Cut.trans2 (Or.inl rfl) hc HRD.out HRb.out
       clear hh kk hc;go_wp2_with fail;go_end0;exact ⟨T7,v7,rfl,H7.out,K7.out,C7.out⟩
end Go.Proofs.YtcekpobmbmnplaaGreatDoor

namespace Go.Proofs.YtcekpobmbmnplaaGreatDoor
set_option maxRecDepth 100000
set_option maxHeartbeats 3200000
open Go.RowKit Go.Shelf
theorem zoy {α:Type} (f:α->List Tk) {l:List α} {k:Nat} (h:k<l.length):(l.take (k+1)).flatMap f=(l.take k).flatMap f++f l[k]:=by
 rw [List.take_succ_eq_append_getElem h,List.flatMap_append];simp
theorem zf6 {α:Type} (f:α->List Tk) (l:List α) (k:Nat):((l.take k).flatMap f).length<=(l.flatMap f).length:=by
 have:l.flatMap f=(l.take k).flatMap f++(l.drop k).flatMap f:=by rw [← List.flatMap_append,List.take_append_drop]
 rw [this,List.length_append];omega
theorem zx4 {b:Nat} {v v':Value} {w W0 W':World} (hb:Below w.heap.size w W0) (h:WK b v v' W0 W') (ho:∀ k,k<w.heap.size->Off b v k):Below w.heap.size w W':=
 ⟨h.os.trans hb.os,h.tape.trans hb.tape,h.output.trans hb.output,Nat.le_trans hb.size h.size,fun k hk=>(h.block k (Nat.lt_of_lt_of_le hk hb.size) (ho k hk)).trans (hb.block k hk)⟩
theorem zji (m:Mo) (hok:moOk m) (hlen:(tM m).length<=2000000000000) (v:Value) (a1:Option Addr) (c1:Nat) (a2:Option Addr) (c2:Nat) (a3:Option Addr) (c3:Nat) (a4:Option Addr) (c4:Nat) (w:World) (hM:MoAt w Tt m v a1 c1 a2 c2 a3 c3 a4 c4) :
 Calls Tryz.prog 29 #[v] w fun e w'=>∃ a cap ts',e = .returned (.slice a ts'.length cap)/\zb9 w' a ts'/\Cut (tM m) [] ts'/\Below w.heap.size w w':=by
 obtain rfl:=hM.val
 have HE:Hid (tM m=[pTk tModule,pTk m.name,pTk tLb]++zb8 tUse m.uses++m.decls.flatMap tD++m.procs.flatMap tP++[pTk tMain]++brT (tSs m.main)++[pTk tRb]):=by
  show _=_
  rw [pn hok.name,pk (t:=tModule) (by decide),pk (t:=tLb) (by decide),pk (t:=tMain) (by decide),pk (t:=tRb) (by decide)];simp [tM]
 have HOk:=hid hok
 have hlz:(zb8 tUse m.uses).length+(m.decls.flatMap tD).length+(m.procs.flatMap tP).length+(tSs m.main).length+7<=2000000000000:=by
  unfold tM brT at hlen;simp only [List.length_append,List.length_cons,List.length_nil] at hlen;omega
 have hnf:=zeg hok.name;have HRu:Hid (zam ([pTk tModule,pTk m.name,pTk tLb]++zb8 tUse m.uses)):=(zam.cons (zgs (by decide)) (.cons (by rw [pn hok.name];exact zgc hok.name) (zgs (by decide)))).append (zvp (zby (by decide)) hok.uses);have HRd:Hid (zam ([pTk tModule,pTk m.name,pTk tLb]++zb8 tUse m.uses++m.decls.flatMap tD)):=HRu.out.append (zmb _ _ (fun d hd=>z3g (hok.decls d hd)))
 have HRp:Hid (∀ k,zam ([pTk tModule,pTk m.name,pTk tLb]++zb8 tUse m.uses++m.decls.flatMap tD++(m.procs.take k).flatMap tP)):=fun k=>HRd.out.append (zmb _ _ (fun p hp=>z27 (hok.procs p (List.mem_of_mem_take hp))))
 have HRm:Hid (zam (brT (tSs m.main))):=zxw (zjb hok.main)
 have HKu:Hid (pTk tUse=kTk tUse/\pTk tSem=kTk tSem):=⟨pk (by decide),pk (by decide)⟩
 have hb1:=hM.uses.bound;have hb2:=hM.decls.bound;have hb3:=hM.procs.bound;have hb4:=hM.main.bound
 obtain ⟨W0,hW0⟩:∃ W0,W0=(w.alloc (.cells #[.string m.name,.slice a1 m.uses.length c1,.slice a2 m.decls.length c2,.slice a3 m.procs.length c3,.slice a4 m.main.length c4] 27)).alloc (.cells #[.slice none 0 0] 102):=⟨_,rfl⟩
 have hz0:W0.heap.size=w.heap.size+1+1:=by rw [hW0];simp
 have HB0:Hid (Below w.heap.size w W0):=by rw [hW0];exact al2 _ _ _
 have HOf:Hid (∀ k,k<w.heap.size->Off (w.heap.size+1) (.slice none 0 0) k):=fun k hk=>⟨by omega,by simp [Value.ownBlock]⟩
 have HMv:Hid (Moves w Tt W0 (Off (w.heap.size+1) (.slice none 0 0))):=⟨HB0.out.size,fun k hk _=>⟨HOf.out k hk,HB0.out.block k hk⟩⟩
 have H0:Hid (Wr (w.heap.size+1) [] (.slice none 0 0) W0):=by
  refine ⟨?_,World.ownsRow_nil _ _ _ _,by simp [Value.ownBlock],fun i hi=>by simp at hi⟩;rw [hW0];have:=heap_newP (w.alloc (.cells #[.string m.name,.slice a1 m.uses.length c1,.slice a2 m.decls.length c2,.slice a3 m.procs.length c3,.slice a4 m.main.length c4] 27)) (.cells #[.slice none 0 0] 102);simpa using this
 have hbx:W0.heap[w.heap.size]? = some (.cells #[.string m.name,.slice a1 m.uses.length c1,.slice a2 m.decls.length c2,.slice a3 m.procs.length c3,.slice a4 m.main.length c4] 27 (0,0)):=by rw [hW0];exact zai (heap_newP _ _)
 obtain ⟨x0_0,x1_0,x2_0,x3_0,x4_0,_⟩:=zaf hbx;have DU0:=hid (hM.uses.moves HMv.out);have DD0:=hid (hM.decls.moves HMv.out);have DP0:=hid (hM.procs.moves HMv.out);have DM0:=hid (hM.main.moves HMv.out)
 have hf0:Hid (Off (w.heap.size+1) (.slice none 0 0) w.heap.size):=⟨by omega,by simp [Value.ownBlock]⟩
 have hx0:w.heap.size<W0.heap.size:=by omega
 clear hok hlen hM hbx HMv;go_enter Tryz.func29,Tryz.ntmps29;go_upto_region 2 with fail;rw [← hW0];clear hW0;generalize hb:w.heap.size+1=b at *;generalize hkb:w.heap.size=kb at *
 have hlt0:b<W0.heap.size:=by omega
 have K0:=hid (WK.refl b (.slice none 0 0) W0);go_wp2_with fail;refine (z0s b _ tModule m.name tLb [] _ W0 (by omega) H0.out (by decide) hnf (by decide) (by simp)).mono ?_;rintro e W1 ⟨v1,rfl,hh,kk⟩;have H1:Hid (Wr b ([pTk tModule,pTk m.name,pTk tLb]) v1 W1):=hh;have K1:=hid kk;have hlt1:=hh.lt;have hz1:=kk.size;have x1_1:=(kk.cell (off:=1) hx0 hf0.out).trans x1_0;have hx1:kb<W1.heap.size:=Nat.lt_of_lt_of_le hx0 kk.size;clear hh kk;go_wp2_with fail
 go_loopw [17,5] (fun i _ wr=>∃ (k:Nat) (vr:Value),k<=m.uses.length/\i = .int .i64 k/\Wr b ([pTk tModule,pTk m.name,pTk tLb]++zb8 tUse (m.uses.take k)) vr wr/\WK b (.slice none 0 0) vr W0 wr) (fun i _ _=>m.uses.length - (intOf i).toNat)
 case atStart=>exact ⟨0,v1,Nat.zero_le _,rfl,by simpa [zb8] using H1.out,K1.out⟩
 case round=>
  clear H1 K1 x1_1;obtain ⟨k,vr,hk,rfl,hW,hK⟩:=hrel;have HW:=hid hW;have HK:=hid hK;have hltr:=hW.lt;have HLn:=zjc tUse m.uses (k+1)
  by_cases hkl:k<m.uses.length
  . obtain ⟨ub,uo,rfl,hul,huc,hus⟩:=(DU0.out.moves hK.moves).str k hkl
    have hkn:=HOk.out.uses m.uses[k] (List.getElem_mem hkl);have hkf:=zeg hkn;have HPk:=hid (pn hkn);have HT:Hid (zb8 tUse (m.uses.take (k+1))=zb8 tUse (m.uses.take k)++[kTk tUse,wTk m.uses[k],kTk tSem]):=zrz tUse hkl
    have hll:(zb8 tUse (m.uses.take k)).length+3<=(zb8 tUse m.uses).length:=by
     rw [HT.out] at HLn;simp only [List.length_append,List.length_cons,List.length_nil] at HLn;omega
    clear hW hK hkn HLn;go_wp2_with fail;refine (z0s b _ tUse m.uses[k] tSem _ vr wr (by omega) HW.out (by decide) hkf (by decide) (by simp;omega)).mono ?_;rintro e W6 ⟨v6,rfl,hh,kk⟩
    have H6:Hid (Wr b ([pTk tModule,pTk m.name,pTk tLb]++zb8 tUse (m.uses.take (k+1))) v6 W6):=by
     show Wr _ _ _ _;rw [HT.out,← HPk.out,← HKu.out.1,← HKu.out.2];have:=hh;simpa using this
    have K6:=hid (HK.out.trans kk);clear hh kk;go_wp2_with fail;go_roundw
    case rel=>exact ⟨k+1,v6,by omega,by go_num,H6.out,K6.out⟩
    case measure=>simp [intOf];omega
  . have hke:m.uses.take k=m.uses:=List.take_of_length_le (by omega)
    rw [hke] at HW;have x2_2:=(hK.cell (off:=2) hx0 hf0.out).trans x2_0;have hx2:kb<wr.heap.size:=Nat.lt_of_lt_of_le hx0 hK.size;clear hW hK HLn hke;go_wp2_with fail
    go_loopw [28,7] (fun i _ wr=>∃ (k:Nat) (vr:Value),k<=m.decls.length/\i = .int .i64 k/\Wr b ([pTk tModule,pTk m.name,pTk tLb]++zb8 tUse m.uses++(m.decls.take k).flatMap tD) vr wr/\WK b (.slice none 0 0) vr W0 wr) (fun i _ _=>m.decls.length - (intOf i).toNat)
    case atStart=>exact ⟨0,vr,Nat.zero_le _,rfl,by simpa using HW.out,HK.out⟩
    case round=>
     clear HW HK x2_2;obtain ⟨k,vr,hk,rfl,hW,hK⟩:=hrel;have HW:=hid hW;have HK:=hid hK;have hltr:=hW.lt;have HLn:=zf6 tD m.decls (k+1)
     by_cases hkl:k<m.decls.length
     . obtain ⟨eb,eo,rfl,hx⟩:=(DD0.out.moves hK.moves).de k hkl
       have hkn:=HOk.out.decls m.decls[k] (List.getElem_mem hkl);have q0:=hx.c0;have q1:=hx.c1;have q2:=hx.c2;have q3:=hx.c3;have hle:=hx.lt;have HT:Hid ((m.decls.take (k+1)).flatMap tD=(m.decls.take k).flatMap tD++tD m.decls[k]):=zoy tD hkl
       have hll:((m.decls.take k).flatMap tD).length+(tD m.decls[k]).length<=(m.decls.flatMap tD).length:=by
        rw [HT.out,List.length_append] at HLn;exact HLn
       obtain ⟨Wb,hWb⟩:∃ Wb,Wb=wr.alloc (.cells #[.int .i64 m.decls[k].kind,.string m.decls[k].name,.bool m.decls[k].pub,.int .i64 m.decls[k].n] 58):=⟨_,rfl⟩
       obtain ⟨y0,y1,y2,y3⟩:=z2r wr (.int .i64 m.decls[k].kind) (.string m.decls[k].name) (.bool m.decls[k].pub) (.int .i64 m.decls[k].n) 58;rw [← hWb] at y0 y1 y2 y3
       have HWb:Hid (Wr b ([pTk tModule,pTk m.name,pTk tLb]++zb8 tUse m.uses++(m.decls.take k).flatMap tD) vr Wb):=by rw [hWb];exact hW.alloc _
       have KWb:Hid (WK b vr vr wr Wb):=by rw [hWb];exact WK.of_below (al1 _ _) b vr
       have hzb:Wb.heap.size=wr.heap.size+1:=by rw [hWb];simp
       have hltb:b<Wb.heap.size:=by omega
       have hxb:wr.heap.size<Wb.heap.size:=by omega
       have HDc:=hid (z2g (d:=m.decls[k]) hkn.1 hkn.2.2.1 hkn.2.2.2 b _ vr Wb HWb.out (by simp only [List.length_append,List.length_cons,List.length_nil];omega));clear hW hK hx hkn HLn;go_upto_region 11 with fail;rw [← hWb];clear hWb;go_wp2_with fail;refine HDc.out.mono ?_;rintro e W6 ⟨v6,rfl,hh,kk⟩
       have H6:Hid (Wr b ([pTk tModule,pTk m.name,pTk tLb]++zb8 tUse m.uses++(m.decls.take (k+1)).flatMap tD) v6 W6):=by
        show Wr _ _ _ _;rw [HT.out];have:=hh;simpa using this
       have K6:=hid ((HK.out.trans KWb.out).trans kk);clear hh kk;go_wp2_with fail;go_roundw
       case rel=>exact ⟨k+1,v6,by omega,by go_num,H6.out,K6.out⟩
       case measure=>simp [intOf];omega
     . have hke:m.decls.take k=m.decls:=List.take_of_length_le (by omega)
       rw [hke] at HW;have x3_3:=(hK.cell (off:=3) hx0 hf0.out).trans x3_0;have hx3:kb<wr.heap.size:=Nat.lt_of_lt_of_le hx0 hK.size;clear hW hK HLn hke;go_wp2_with fail
       go_loopw [38,9] (fun i _ wr=>∃ (k:Nat) (vr:Value) (T:List Tk),k<=m.procs.length/\i = .int .i64 k/\Wr b T vr wr/\WK b (.slice none 0 0) vr W0 wr/\Hid (Cut ([pTk tModule,pTk m.name,pTk tLb]++zb8 tUse m.uses++m.decls.flatMap tD++(m.procs.take k).flatMap tP) [] T)) (fun i _ _=>m.procs.length - (intOf i).toNat)
       case atStart=>exact ⟨0,vr,_,Nat.zero_le _,rfl,HW.out,HK.out,Or.inl (by simp)⟩
       case round=>
        clear HW HK x3_3;obtain ⟨k,vr,T,hk,rfl,hW,hK,HC⟩:=hrel;have HW:=hid hW;have HK:=hid hK;have hltr:=hW.lt;have HLn:=zf6 tP m.procs (k+1);have hTl:=HC.out.len;have hTk:=zf6 tP m.procs k;simp only [List.length_append,List.length_cons,List.length_nil] at hTl
        by_cases hkl:k<m.procs.length
        . obtain ⟨eb,eo,e1,f1,e2,f2,e3,f3,rfl,hx⟩:=(DP0.out.moves hK.moves).pr k hkl
          have hkn:=HOk.out.procs m.procs[k] (List.getElem_mem hkl);have q0:=hx.c0;have q1:=hx.c1;have q2:=hx.c2;have q3:=hx.c3;have q4:=hx.c4;have hle:=hx.lt;have HT:Hid ((m.procs.take (k+1)).flatMap tP=(m.procs.take k).flatMap tP++tP m.procs[k]):=zoy tP hkl
          have hll:((m.procs.take k).flatMap tP).length+(tP m.procs[k]).length<=(m.procs.flatMap tP).length:=by
           rw [HT.out,List.length_append] at HLn;exact HLn
          obtain ⟨Wb,hWb⟩:∃ Wb,Wb=wr.alloc (.cells #[.string m.procs[k].name,.bool m.procs[k].pub,.slice e1 m.procs[k].params.length f1,.slice e2 m.procs[k].locals.length f2,.slice e3 m.procs[k].body.length f3] 60):=⟨_,rfl⟩
          obtain ⟨y0,y1,y2,y3,y4⟩:=zwb wr (.string m.procs[k].name) (.bool m.procs[k].pub) (.slice e1 m.procs[k].params.length f1) (.slice e2 m.procs[k].locals.length f2) (.slice e3 m.procs[k].body.length f3) 60;rw [← hWb] at y0 y1 y2 y3 y4
          have HWb:Hid (Wr b T vr Wb):=by rw [hWb];exact hW.alloc _
          have KWb:Hid (WK b vr vr wr Wb):=by rw [hWb];exact WK.of_below (al1 _ _) b vr
          have hmv:Moves wr (Off b vr) Wb (Off b vr):=by rw [hWb];exact Moves.of_below (al1 _ _) _
          have hzb:Wb.heap.size=wr.heap.size+1:=by rw [hWb];simp
          have hltb:b<Wb.heap.size:=by omega
          have hxb:wr.heap.size<Wb.heap.size:=by omega
          have HDc:=hid (z2h m.procs[k].name m.procs[k].pub m.procs[k].params m.procs[k].locals m.procs[k].body hkn.1 hkn.2.1 hkn.2.2.1 (zry hkn.2.2.2) (zxw (zjb hkn.2.2.2)) b T vr Wb e1 e2 e3 f1 f2 f3 HWb.out (hx.params.moves hmv) (hx.locals.moves hmv) (hx.body.moves hmv) (by show T.length+(tP m.procs[k]).length<=_;omega));have HRk:=hid (z27 hkn);clear hW hK hx hkn HLn hmv;go_upto_region 16 with fail;rw [← hWb];clear hWb;go_wp2_with fail;refine HDc.out.mono ?_;rintro e W6 ⟨T6,v6,rfl,hh,kk,hc⟩;have H6:=hid hh;have K6:=hid ((HK.out.trans KWb.out).trans kk)
          have C6:Hid (Cut ([pTk tModule,pTk m.name,pTk tLb]++zb8 tUse m.uses++m.decls.flatMap tD++(m.procs.take (k+1)).flatMap tP) [] T6):=by
           show Cut _ _ _;rw [HT.out,← List.append_assoc];exact HC.out.trans2 hc (HRp.out k) HRk.out
          clear hh kk hc;go_wp2_with fail;go_roundw
          case rel=>exact ⟨k+1,v6,T6,by omega,by go_num,H6.out,K6.out,C6⟩
          case measure=>simp [intOf];omega
        . have hke:m.procs.take k=m.procs:=List.take_of_length_le (by omega)
          rw [hke] at HC hTl hTk
          have HRq:Hid (zam ([pTk tModule,pTk m.name,pTk tLb]++zb8 tUse m.uses++m.decls.flatMap tD++m.procs.flatMap tP)):=by have:=HRp.out k;rw [hke] at this;exact this
          have x4_4:=(hK.cell (off:=4) hx0 hf0.out).trans x4_0;have hx4:kb<wr.heap.size:=Nat.lt_of_lt_of_le hx0 hK.size;have hf4:=hid (hK.off hx0 hf0.out);have DM4:=hid (DM0.out.moves hK.moves);clear hW hK HLn hke;go_wp2_with fail;refine (zg7 b _ tMain T vr wr (by omega) HW.out (by decide) (by omega)).mono ?_;rintro e W7 ⟨v7,rfl,hh,kk⟩;have H7:=hid hh;have K7:=hid (HK.out.trans kk);have hz7:=kk.size;have hlt7:=hh.lt;have x4_7:=(kk.cell (off:=4) hx4 hf4.out).trans x4_4;have hx7:kb<W7.heap.size:=Nat.lt_of_lt_of_le hx4 kk.size;have DM7:=hid (DM4.out.moves kk.moves);have C7:Hid (Cut ([pTk tModule,pTk m.name,pTk tLb]++zb8 tUse m.uses++m.decls.flatMap tD++m.procs.flatMap tP++[pTk tMain]) [] (T++[pTk tMain])):=HC.out.trans2 (Or.inl rfl) HRq.out (zgs (by decide));have HR7:Hid (zam ([pTk tModule,pTk m.name,pTk tLb]++zb8 tUse m.uses++m.decls.flatMap tD++m.procs.flatMap tP++[pTk tMain])):=HRq.out.append (zgs (by decide))
          have hL7:(T++[pTk tMain]).length=T.length+1:=by simp
          clear hh kk x4_4 DM4;generalize T++[pTk tMain]=T7 at *;go_wp2_with fail;refine (zry HOk.out.main b T7 v7 W7 a4 c4 H7.out DM7.out (by unfold brT;simp;omega)).mono ?_;rintro e W8 ⟨T8,v8,rfl,hh,kk,hc⟩;have H8:=hid hh;have K8:=hid (K7.out.trans kk);have hlt8:=hh.lt;have C8:Hid (Cut ([pTk tModule,pTk m.name,pTk tLb]++zb8 tUse m.uses++m.decls.flatMap tD++m.procs.flatMap tP++[pTk tMain]++brT (tSs m.main)) [] T8):=C7.out.trans2 hc HR7.out HRm.out;have HR8:Hid (zam ([pTk tModule,pTk m.name,pTk tLb]++zb8 tUse m.uses++m.decls.flatMap tD++m.procs.flatMap tP++[pTk tMain]++brT (tSs m.main))):=HR7.out.append HRm.out;have hL8:=hc.len;simp [brT] at hL8;clear hh kk hc;go_wp2_with fail;refine (zg7 b _ tRb T8 v8 W8 (by omega) H8.out (by decide) (by omega)).mono ?_;rintro e W9 ⟨v9,rfl,hh,kk⟩
          obtain ⟨T9,hT9e⟩:∃ T9,T9=T8++[pTk tRb]:=⟨_,rfl⟩
          rw [← hT9e] at hh;have K9:=hid (K8.out.trans kk)
          have C9:Hid (Cut (tM m) [] T9):=by
           show Cut _ _ _;rw [HE.out];exact C8.out.trans2 (Or.inl hT9e) HR8.out (zgs (by decide))
          obtain ⟨r9,_⟩:=hh.read;have hlt9:=hh.lt;obtain ⟨a9,c9,rfl,hT9⟩:=zg2 hh.row hh.fit;have HT9:=hid hT9;clear hh kk hT9 hT9e;go_wp2_with fail;go_ret;exact ⟨a9,c9,_,rfl,HT9.out,C9.out,zx4 (by rw [hkb];exact HB0.out) K9.out (by rw [hkb];exact HOf.out)⟩
def shoE (m:Mo):Int:=if m.err=0 then (if 4096<(tM m).length then 2 else 0) else m.err
def shoS (m:Mo):ByteArray:=if shoE m=0 then showR (tM m) else ⟨#[]⟩
theorem zin {m:Mo} {ts:List Tk} (h:m.err=0) (hc:Cut (tM m) [] ts):checkN ts=shoE m/\showR ts=shoS m:=by
 have hr:=z28 (zqa h);have hR:zam ts:=hc.right hr .nil
 by_cases hl:4096<(tM m).length
 . have hE:shoE m=2:=by unfold shoE;rw [if_pos h,if_pos hl]
   have hlt:4096<ts.length:=by
    rcases hc with rfl | hc
    . simpa using hl
    . exact hc.1
   have e:=zkb hR.1 hR.2 hlt;refine ⟨by rw [e,hE],?_⟩;unfold showR shoS
   rw [e,hE];rfl
 . have hE:shoE m=0:=by unfold shoE;rw [if_pos h,if_neg hl]
   have hts:ts=tM m:=by
    rcases hc with rfl | hc
    . simp
    . have:=hc.1
      have:=hc.2.1;simp at this;omega
   subst hts;have e:=zkc hR.1 hR.2 hl;refine ⟨by rw [e,hE],?_⟩;unfold shoS;rw [if_pos hE]
theorem zgt (m:Mo) (v:Value) (a1:Option Addr) (c1:Nat) (a2:Option Addr) (c2:Nat) (a3:Option Addr) (c3:Nat) (a4:Option Addr) (c4:Nat) (w:World) (htab:Tab w) (hM:MoAt w Tt m v a1 c1 a2 c2 a3 c3 a4 c4) :
 Calls Tryz.prog 12 #[v] w fun e w'=>e = .returned (.tuple #[.string (shoS m),.int .i64 (shoE m)])/\Below w.heap.size w w':=by
 obtain rfl:=hM.val;have HM:=hid hM;have HTab:=hid htab
 obtain ⟨W0,hW0⟩:∃ W0,W0=w.alloc (.cells #[.string m.name,.slice a1 m.uses.length c1,.slice a2 m.decls.length c2,.slice a3 m.procs.length c3,.slice a4 m.main.length c4] 27):=⟨_,rfl⟩
 have HB0:Hid (Below w.heap.size w W0):=by rw [hW0];exact al1 _ _
 have hbx:W0.heap[w.heap.size]? = some (.cells #[.string m.name,.slice a1 m.uses.length c1,.slice a2 m.decls.length c2,.slice a3 m.procs.length c3,.slice a4 m.main.length c4] 27 (0,0)):=by rw [hW0];exact heap_newP _ _
 obtain ⟨x0,x1,x2,x3,x4,_⟩:=zaf hbx;have HBx:=hid hbx
 have hz0:W0.heap.size=w.heap.size+1:=by rw [hW0];simp
 have hx0:w.heap.size<W0.heap.size:=by omega
 clear hM htab hbx;go_enter Tryz.func12,Tryz.ntmps12;go_upto_region 1 with fail;rw [← hW0];clear hW0;go_wp2_with fail;refine (zd9 m _ a1 c1 a2 c2 a3 c3 a4 c4 W0 (HM.out.later HB0.out)).mono ?_;rintro e W1 ⟨rfl,hb1⟩;have hbb1:=zab HB0.out hb1;have HBl:=hid hbb1;have hbx1:=(hb1.block w.heap.size hx0).trans HBx.out;clear x0 x1 x2 x3 x4;obtain ⟨x0,x1,x2,x3,x4,_⟩:=zaf hbx1;have hx1:w.heap.size<W1.heap.size:=Nat.lt_of_lt_of_le hx0 hb1.size;clear hb1 hbb1 hbx1
 by_cases he:m.err=0
 . have HE:=hid he
   have HL:=hid (zyr (zjn he).2.1);have HOk:=hid (zqa he);rw [he];clear he;go_wp2_with fail;refine (zji m HOk.out HL.out _ a1 c1 a2 c2 a3 c3 a4 c4 W1 (HM.out.later HBl.out)).mono ?_;rintro e W2 ⟨a,cap,ts,rfl,hT,hC,hb2⟩;have HT:=hid hT;have HCk:=hid (zin HE.out hC);have HBl2:=hid (zab HBl.out hb2)
   have hln:ts.length<=1000000000000000:=by
    have h1:=hC.len;have h2:=HL.out;simp at h1;omega
   clear hT hC hb2;go_wp2_with fail;refine (zjs a cap ts W2 HT.out hln (HTab.out.later HBl2.out)).mono ?_;rw [HCk.out.1,HCk.out.2];rintro e W3 ⟨rfl,hb3⟩;have HBl3:=hid (zab HBl2.out hb3);clear hb3;go_wp2_with fail;go_ret2;exact ⟨rfl,HBl3.out⟩
 . have HE:Hid (shoE m=m.err/\shoS m=⟨#[]⟩):=by
    have h1:shoE m=m.err:=by unfold shoE;rw [if_neg he]
    refine ⟨h1,?_⟩
    unfold shoS;rw [if_neg (by rw [h1];exact he)]
   have heb:(m.err == 0)=false:=by simp [he]
   go_wp2_with fail;go_ret2;exact ⟨by rw [HE.out.1,HE.out.2];rfl,HBl.out⟩
end Go.Proofs.YtcekpobmbmnplaaGreatDoor
