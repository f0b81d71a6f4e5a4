/-
  What Parse answers.
-/
import Derived.Test.YtcekpobmbmnplaaGreatDoorQb
import Derived.Test.YtcekpobmbmnplaaGreatDoorPo
import Derived.Test.YtcekpobmbmnplaaGreatDoorCe
import Derived.Test.YtcekpobmbmnplaaGreatDoorStep
import Derived.Test.YtcekpobmbmnplaaGreatDoorQe
namespace Go.Proofs.YtcekpobmbmnplaaGreatDoor
set_option maxRecDepth 100000
set_option maxHeartbeats 1600000
open Go.RowKit Go.Shelf
theorem zd6 (s:ByteArray):zif (lexT s):=by
 unfold lexT;split
 . exact ⟨⟨rfl,rfl⟩,by simp⟩
 . rename_i hs
   cases h:zc6 s 0 with
   | none=>exact ⟨⟨rfl,rfl⟩,by simp⟩
   | some ts=>
     rw [zlv] at h;have:=zsq _ _ ts rfl h;rw [Lx.len_toList] at this;exact ⟨this.1,by show ts.length<=4096;omega⟩
theorem zg4 {ts:List Tk} {m:Mo} (h:znb ts=some m) (hg:zif ts):ts=tM m/\Fine m:=by
 unfold znb at h
 split at h
 . rename_i m' hm
   cases h;have:=zne hm hg;simpa using this
 . cases h
theorem zvk {A:Nat->Prop} {m:Mo} {w:World} {v:Value} (h:zgk A m w v) (hf:Fine m):∃ a1 c1 a2 c2 a3 c3 a4 c4,MoAt w Tt m v a1 c1 a2 c2 a3 c3 a4 c4:=by
 obtain ⟨a1,c1,a2,c2,a3,c3,a4,c4,rfl,h0,h1,h2,h3,h4⟩:=h
 have hm:Moves w A w Tt:=⟨Nat.le_refl _,fun _ _ _=>⟨trivial,rfl⟩⟩
 have l2:(zfk m.decls).length=4*m.decls.length:=by
  have:∀ l:List De,(zfk l).length=4*l.length:=by
   intro l
   induction l with
   | nil=>rfl
   | cons x r ih=>
     show (x.ds++zfk r).length=_;rw [List.length_append,ih]
     simp [De.ds];omega
  exact this _
 have l3:(zf9 m.procs).length=5*m.procs.length:=by
  have:∀ l:List Pr,(zf9 l).length=5*l.length:=by
   intro l
   induction l with
   | nil=>rfl
   | cons x r ih=>
     show (x.ds++zf9 r).length=_;rw [List.length_append,ih]
     simp [Pr.ds];omega
  exact this _
 have k1:=hf.uses;have k2:=hf.decls;have k3:=hf.procs;have k4:=hf.main;exact ⟨a1,c1,a2,c2,a3,c3,a4,c4,rfl,h0,(h1.moves hm).toD (by simp [zax]) (by simp [zax];omega) (zih _),(h2.moves hm).toD (by rw [l2];omega) (by rw [l2];omega) hf.fd,(h3.moves hm).toD (by rw [l3];omega) (by rw [l3];omega) hf.fp,(h4.moves hm).toD (by rw [zes];omega) (by rw [zes];omega) hf.fm⟩
theorem zc1 {B b:Nat} {a w:World} (h:Below B a w) (hb:B<=b) (v0 v1 v2 v3 v4:Value):Below B a (set5 w b v0 v1 v2 v3 v4):=
 ((((h.setCell (p:=⟨b,0,none⟩) hb _).setCell (p:=⟨b,1,none⟩) hb _).setCell (p:=⟨b,2,none⟩) hb _).setCell (p:=⟨b,3,none⟩) hb _).setCell (p:=⟨b,4,none⟩) hb _
theorem zgk.moves {A A':Nat->Prop} {m:Mo} {w w':World} {v:Value} (h:zgk A m w v) (hm:Moves w A w' A'):zgk A' m w' v:=by
 obtain ⟨a1,c1,a2,c2,a3,c3,a4,c4,rfl,h0,h1,h2,h3,h4⟩:=h;exact ⟨a1,c1,a2,c2,a3,c3,a4,c4,rfl,h0,h1.moves hm,h2.moves hm,h3.moves hm,h4.moves hm⟩
def zdq (s:ByteArray):Option Mo:=if lexE s=0 then (match znb (lexT s) with | some m=>if m.err=0 then some m else none | none=>none) else none
def parsE (s:ByteArray):Int:=if lexE s=0 then (match zdq s with | some _=>0 | none=>1) else lexE s
def zrm (s:ByteArray) (e:Ending) (w:World):Prop:=
 (zdq s=none/\parsE s≠0/\e = .returned (.tuple #[zhh,.int .i64 (parsE s)]))\/
 ∃ m v a1 c1 a2 c2 a3 c3 a4 c4,zdq s=some m/\parsE s=0/\e = .returned (.tuple #[v,.int .i64 0])/\MoAt w Tt m v a1 c1 a2 c2 a3 c3 a4 c4
theorem zek (s:ByteArray) (w:World) (hs:s.size<=maxLen) :
 Calls Tryz.prog 9 #[.string s] w fun e w'=>zrm s e w'/\Below w.heap.size w w':=by
 have HG:=hid (zd6 s);go_enter Tryz.func9,Tryz.ntmps9;go_wp2_with fail;refine (zmy s _ hs).mono ?_;rintro e w1 ⟨a,cap,rfl,hT,hb1⟩;have HT:=hid hT;have hz1:=hb1.size;simp at hz1;have HB1:Hid (w1.heap[w.heap.size]? = some zcl):=(hb1.block w.heap.size (by simp)).trans (heap_newP _ _);have HBl:Hid (Below w.heap.size w w1):=zab (al1 _ _) hb1;clear hT hb1;obtain ⟨h0,h1,h2,h3,h4,h5⟩:=zaf HB1.out
 have hlt1:w.heap.size<w1.heap.size:=by omega
 by_cases he:lexE s=0
 . have HE:=hid he
   rw [he];clear he;generalize hts:lexT s=ts at *;go_wp2_with fail;refine (zsv ts a cap w1 HT.out HG.out.2).mono ?_;rintro e w2 ⟨hb2,⟨hn,rfl⟩ | ⟨m,v,hn,rfl,hM⟩⟩
   . have HN:Hid (zdq s=none/\parsE s=1):=by
      have h:zdq s=none:=by unfold zdq;rw [if_pos HE.out,hts,hn]
      refine ⟨h,?_⟩
      unfold parsE;rw [if_pos HE.out,h]
     have HBl2:=hid (zab HBl.out hb2);have hz2:=hb2.size;have HB2:Hid (w2.heap[w.heap.size]? = some zcl):=(hb2.block w.heap.size hlt1).trans HB1.out;have HB3:=hid (zai (o:=zcl) HB2.out);clear h0 h1 h2 h3 h4 h5 hb2;obtain ⟨h0,h1,h2,h3,h4,h5⟩:=zaf HB2.out
     have hlt2:w.heap.size<w2.heap.size:=by omega
     have hBx:=zc1 HBl2.out (Nat.le_refl _) (.string ⟨#[]⟩) (.slice none 0 0) (.slice none 0 0) (.slice none 0 0) (.slice none 0 0);have HBf:=hid (hBx.alloc hBx.size zcl);clear hBx;go_wp2_with fail;refine bodyPost_ret (v:=.tuple #[zhh,.int .i64 1]) (by simp [results,Tryz.results9,go_sem,h0,h1,h2,h3,h4,hlt2]) rfl ⟨Or.inl ⟨HN.out.1,by rw [HN.out.2];decide,by rw [HN.out.2]⟩,HBf.out⟩
   . obtain ⟨e1,hF⟩:=zg4 hn HG.out
     have HF:=hid hF;have HM:=hid hM;obtain ⟨a1,c1,a2,c2,a3,c3,a4,c4,rfl,_⟩:=hM;have HN:=hid hn;have HBl2:=hid (zab HBl.out hb2);have hz2:=hb2.size;have HB2:Hid (w2.heap[w.heap.size]? = some zcl):=(hb2.block w.heap.size hlt1).trans HB1.out
     have hCk:∀ W,Below w2.heap.size w2 W->Calls Tryz.prog 7 #[.agg #[.string m.name,.slice a1 m.uses.length c1,.slice a2 m.decls.length c2,.slice a3 m.procs.length c3,.slice a4 m.main.length c4]] W fun e w'=>e = .returned (.int .i64 m.err)/\Below W.heap.size W w':=fun W hW=>by
      obtain ⟨b1,d1,b2,d2,b3,d3,b4,d4,hA⟩:=zvk (HM.out.moves (Moves.of_below hW _)) HF.out;exact zd9 m _ _ _ _ _ _ _ _ _ W hA
     have HCk:=hid hCk;clear h0 h1 h2 h3 h4 h5 hb2 e1 hF hn hCk
     have hlt2:w.heap.size<w2.heap.size:=by omega
     go_wp2_with fail;refine (HCk.out _ (al1 _ _)).mono ?_;rintro e w3 ⟨rfl,hb3⟩;have hz3:=hb3.size;simp at hz3;have HB3:Hid (w3.heap[w.heap.size]? = some zcl):=(hb3.block w.heap.size (by simp;omega)).trans (zai HB2.out);have HV3:Hid (w3.heap[w2.heap.size]? = some (.cells #[.string m.name,.slice a1 m.uses.length c1,.slice a2 m.decls.length c2,.slice a3 m.procs.length c3,.slice a4 m.main.length c4] 27 (0,0))):=(hb3.block w2.heap.size (by simp)).trans (heap_newP _ _);have HBl3:=hid (zab HBl2.out (zab (al1 _ _) hb3));have HM3:Hid (zgk (w1.heap.size<=·) m w3 (.agg #[.string m.name,.slice a1 m.uses.length c1,.slice a2 m.decls.length c2,.slice a3 m.procs.length c3,.slice a4 m.main.length c4])):=HM.out.moves ((Moves.of_below (al1 _ _) _).trans (Moves.of_below hb3 _));obtain ⟨h0,h1,h2,h3,h4,h5⟩:=zaf HB3.out;obtain ⟨g0,g1,g2,g3,g4,g5⟩:=zaf HV3.out
     have hlt3:w.heap.size<w3.heap.size:=by omega
     have hlt4:w2.heap.size<w3.heap.size:=by omega
     clear hb3 HCk HM HB2
     by_cases hr:m.err=0
     . have HP:Hid (zdq s=some m/\parsE s=0):=by
        have h:zdq s=some m:=by unfold zdq;rw [if_pos HE.out,hts,HN.out];simp [hr]
        refine ⟨h,?_⟩
        unfold parsE;rw [if_pos HE.out,h]
       have HBf:=hid (zc1 HBl3.out (Nat.le_refl _) (.string m.name) (.slice a1 m.uses.length c1) (.slice a2 m.decls.length c2) (.slice a3 m.procs.length c3) (.slice a4 m.main.length c4));have HMf:=hid (zvk (HM3.out.moves (((Moves.refl w3 (w1.heap.size<=·)).set5 (b:=w.heap.size) (fun k _ hk=>by omega) (.string m.name) (.slice a1 m.uses.length c1) (.slice a2 m.decls.length c2) (.slice a3 m.procs.length c3) (.slice a4 m.main.length c4)))) HF.out)
       have hrb:(m.err == 0)=true:=by simp [hr]
       rw [hr];go_wp2_with fail;refine bodyPost_ret (v:=.tuple #[.agg #[.string m.name,.slice a1 m.uses.length c1,.slice a2 m.decls.length c2,.slice a3 m.procs.length c3,.slice a4 m.main.length c4],.int .i64 0]) (by simp [results,Tryz.results9,go_sem,h0,h1,h2,h3,h4]) rfl ⟨Or.inr ?_,HBf.out⟩;obtain ⟨b1,d1,b2,d2,b3,d3,b4,d4,hA⟩:=HMf.out;exact ⟨m,_,b1,d1,b2,d2,b3,d3,b4,d4,HP.out.1,HP.out.2,rfl,hA⟩
     . have HN':Hid (zdq s=none/\parsE s=1):=by
        have h:zdq s=none:=by unfold zdq;rw [if_pos HE.out,hts,HN.out];simp [hr]
        refine ⟨h,?_⟩
        unfold parsE;rw [if_pos HE.out,h]
       have HBf:=hid (zc1 HBl3.out (Nat.le_refl _) (.string ⟨#[]⟩) (.slice none 0 0) (.slice none 0 0) (.slice none 0 0) (.slice none 0 0))
       have hrb:(m.err == 0)=false:=by simp [hr]
       have hrb2:(m.err != 0)=true:=by simp [hr]
       generalize m.err=er at *;go_wp2_with fail;refine bodyPost_ret (v:=.tuple #[zhh,.int .i64 1]) (by simp [results,Tryz.results9,go_sem,h0,h1,h2,h3,h4]) rfl ⟨Or.inl ⟨HN'.out.1,by rw [HN'.out.2];decide,by rw [HN'.out.2]⟩,HBf.out⟩
 . have HN:Hid (zdq s=none/\parsE s=lexE s):=by
    refine ⟨by unfold zdq;rw [if_neg he],?_⟩
    unfold parsE;rw [if_neg he]
   have HBf:=hid (zc1 HBl.out (Nat.le_refl _) (.string ⟨#[]⟩) (.slice none 0 0) (.slice none 0 0) (.slice none 0 0) (.slice none 0 0))
   have hrb:(lexE s == 0)=false:=by simp [he]
   go_wp2_with fail;refine bodyPost_ret (v:=.tuple #[zhh,.int .i64 (lexE s)]) (by simp [results,Tryz.results9,go_sem,h0,h1,h2,h3,h4]) rfl ⟨Or.inl ⟨HN.out.1,by rw [HN.out.2];exact he,by rw [HN.out.2]⟩,HBf.out⟩
end Go.Proofs.YtcekpobmbmnplaaGreatDoor

namespace Go.Proofs.YtcekpobmbmnplaaGreatDoor
set_option maxRecDepth 100000
set_option maxHeartbeats 1600000
open Go.RowKit Go.Shelf
theorem zs5 (w:World) (b j:Nat) (u:Value):w.grownBy (w.setCell ⟨b,j,Option.none⟩ u) (Option.some b):=
 ⟨rfl,rfl,rfl,by simp [World.setCell],fun k _ hk=>Below.heap_setCell _ _ _ _ (fun e=>hk (congrArg Option.some e))⟩
structure Wr (b:Nat) (ts:List Tk) (v:Value) (W:World):Prop where
 cell:W.heap[b]? = some (.cells #[v] 102 (0,0))
 row:W.ownsRow 0 68 3 v ts.length (cellsOf ts)
 ne:v.ownBlock≠some b
 fit:zcx ts
def Off (b:Nat) (v:Value) (k:Nat):Prop:=k≠b/\v.ownBlock≠some k
structure WK (b:Nat) (v v':Value) (W W':World):Prop where
 os:W'.os=W.os
 tape:W'.tape=W.tape
 output:W'.output=W.output
 size:W.heap.size<=W'.heap.size
 block:∀ k,k<W.heap.size->Off b v k->W'.heap[k]? = W.heap[k]?
 own:∀ k,v'.ownBlock=some k->v.ownBlock=some k\/W.heap.size<=k
section
variable {b:Nat} {v v' v'':Value} {W W' W'':World}
theorem WK.refl (b:Nat) (v:Value) (W:World):WK b v v W W:=⟨rfl,rfl,rfl,Nat.le_refl _,fun _ _ _=>rfl,fun _ h=>Or.inl h⟩
theorem WK.off (h:WK b v v' W W') {k:Nat} (hk:k<W.heap.size) (ho:Off b v k):Off b v' k:=⟨ho.1,fun e=>by
 rcases h.own k e with h1 | h1
 . exact ho.2 h1
 . omega⟩
theorem WK.trans (h:WK b v v' W W') (k:WK b v' v'' W' W''):WK b v v'' W W'' where
 os:=k.os.trans h.os
 tape:=k.tape.trans h.tape
 output:=k.output.trans h.output
 size:=Nat.le_trans h.size k.size
 block:=fun i hi ho=>(k.block i (Nat.lt_of_lt_of_le hi h.size) (h.off hi ho)).trans (h.block i hi ho)
 own:=fun i hi=>by
  rcases k.own i hi with h1 | h1
  . exact h.own i h1
  . exact Or.inr (Nat.le_trans h.size h1)
theorem WK.of_below (hb:Below W.heap.size W W') (b:Nat) (v:Value):WK b v v W W':=⟨hb.os,hb.tape,hb.output,hb.size,fun k hk _=>hb.block k hk,fun _ h=>Or.inl h⟩
theorem WK.alloc (h:WK b v v' W W') (o:Obj):WK b v v' W (W'.alloc o):=h.trans (WK.of_below (al1 _ _) b v')
theorem WK.moves (h:WK b v v' W W'):Moves W (Off b v) W' (Off b v'):=⟨h.size,fun k hk ho=>⟨h.off hk ho,h.block k hk ho⟩⟩
theorem WK.cell (h:WK b v v' W W') {k off:Nat} (hk:k<W.heap.size) (ho:Off b v k):W'.cell? ⟨k,off,none⟩=W.cell? ⟨k,off,none⟩:=World.cell?_of_block (w:=W) (h.block k hk ho)
theorem Wr.later {ts:List Tk} (h:Wr b ts v W) (hb:Below W.heap.size W W'):Wr b ts v W':=⟨(hb.block b (zac h.cell)).trans h.cell,zd3 h.row hb,h.ne,h.fit⟩
theorem Wr.alloc {ts:List Tk} (h:Wr b ts v W) (o:Obj):Wr b ts v (W.alloc o):=h.later (al1 _ _)
theorem Wr.lt {ts:List Tk} (h:Wr b ts v W):b<W.heap.size:=zac h.cell
theorem Wr.own {ts:List Tk} (h:Wr b ts v W) {k:Nat} (hk:W.heap.size<=k):Off b v k:=⟨by have:=h.lt;omega,fun e=>by have:=(h.row.lt k e).2;omega⟩
theorem Wr.read {ts:List Tk} (h:Wr b ts v W):W.cell? ⟨b,0,none⟩=some v/\W.frozen? ⟨b,0,none⟩=false:=by
 refine ⟨by rw [Lib.cell_of_heap h.cell];rfl,?_⟩;unfold World.frozen?;simp only;rw [h.cell];simp
theorem Wr.shape {ts:List Tk} (h:Wr b ts v W):∃ a cap,v = .slice a ts.length cap:=by
 rcases h.row.2 with ⟨h1,h2⟩ | ⟨g,cap,cur,h1,_⟩
 . exact ⟨none,0,by rw [h2];exact h1⟩
 . exact ⟨_,_,h1⟩
theorem Wr.put {ts:List Tk} {t:Tk} {g cp:Nat} (h:Wr b ts v W) (hf:t.fits) (hg:W.grownBy W' v.ownBlock) (hat:v.ownBlock=some g\/W.heap.size<=g) (ho:W'.ownsRow 0 68 3 (.slice (some ⟨g,0,none⟩) (ts.length+1) cp) (ts.length+1) (cellsOf ts++tkCells t)) :
 Wr b (ts++[t]) (.slice (some ⟨g,0,none⟩) (ts.length+1) cp) (W'.setCell ⟨b,0,none⟩ (.slice (some ⟨g,0,none⟩) (ts.length+1) cp))/\WK b v (.slice (some ⟨g,0,none⟩) (ts.length+1) cp) W (W'.setCell ⟨b,0,none⟩ (.slice (some ⟨g,0,none⟩) (ts.length+1) cp)):=by
 have hlt:=h.lt
 have hgb:g≠b:=by
  rcases hat with h1 | h1
  . intro e;exact h.ne (by rw [h1,e])
  . omega
 have hcb:W'.heap[b]? = some (.cells #[v] 102 (0,0)):=(hg.block b hlt (fun e=>h.ne e.symm)).trans h.cell;refine ⟨⟨zan hcb _,?_,by simp [Value.ownBlock];exact hgb,?_⟩,⟨hg.os,hg.tape,hg.output,by rw [World.size_setCell];exact hg.size,fun k hk hoff=>?_,fun k hk=>?_⟩⟩
 . rw [zgi,List.length_append]
   exact ho.kept (zs5 _ _ _ _) (Or.inr (by simp [Value.ownBlock];exact hgb))
 . intro i hi
   rw [List.length_append] at hi;simp at hi
   rcases Nat.lt_or_ge i ts.length with h1 | h1
   . rw [List.getElem_append_left h1];exact h.fit i h1
   . rw [List.getElem_append_right h1]
     simpa using hf
 . rw [zag (by show k≠b;exact hoff.1)]
   exact hg.block k hk (fun e=>hoff.2 e.symm)
 . have e:g=k:=by simpa [Value.ownBlock] using hk
   subst e
   rcases hat with h1 | h1
   . exact Or.inl h1
   . exact Or.inr (by omega)
end
def pTk (t:ByteArray):Tk:=⟨if Lx.headLet t.data.toList then 1 else 3,0,t⟩
theorem zgr (b:Nat) (ts:List Tk) (v:Value) (n:Int) (W:World) (h:Wr b ts v W) (hl:ts.length+1<=4000000000000) :
 Calls Tryz.prog 99 #[.pointer (some ⟨b,0,none⟩),.int .i64 n] W fun e W'=>∃ v',e = .returned (.tuple #[])/\Wr b (ts++[nTk n]) v' W'/\WK b v v' W W':=by
 obtain ⟨i0,hi,hz0,hz1,hz2⟩:=info_parts Tryz.infoTok;have HW:=hid h;obtain ⟨c0,f0⟩:=h.read;have hlt:=h.lt;obtain ⟨a,cap,rfl⟩:=h.shape;have HRow:=hid h.row;clear h;go_enter Tryz.func99,Tryz.ntmps99
 go_wp2_with (at_builtin;refine wpList_append_lies _ rfl _ _ 38 rfl 0 68 i0 _ 3 32 Tryz.underlying38 hi hz0 hz1 hz2 rfl (by decide) _ ts.length (cellsOf ts) rfl (HRow.out.alloc _) ⟨W.heap.size,0,none⟩ 1 1 (tkCells (nTk n)) rfl rfl (zdb _ _ _ _ _) (zdc _) (by omega) (by unfold maxLen;omega) (by omega) (by simp) _ rfl ?_;intro gb cp w8 hown8 hg8 hat8 hlt8;have hg:W.grownBy w8 (Value.slice a ts.length cap).ownBlock:=(World.grownBy_alloc W _ _).trans hg8;have c8:w8.cell? ⟨b,0,none⟩=some (.slice a ts.length cap):=(hg.cell_far ⟨b,0,none⟩ hlt (fun e=>HW.out.ne e.symm)).trans c0;have f8:w8.frozen? ⟨b,0,none⟩=false:=(hg.frozen_far ⟨b,0,none⟩ hlt (fun e=>HW.out.ne e.symm)).trans f0;have hq8:b<w8.heap.size:=Nat.lt_of_lt_of_le hlt hg.size)
 go_end0
 obtain ⟨h1,h2⟩:=HW.out.put (t:=nTk n) (by show (⟨#[]⟩:ByteArray).size<=maxLen;unfold maxLen;decide) hg (by
  rcases hat8 with h | h
  . exact Or.inl h
  . exact Or.inr (by simp at h;omega)) hown8
 exact ⟨_,rfl,h1,h2⟩
theorem zqk (b g c:Nat) (texts:List ByteArray) (ts:List Tk) (v:Value) (W:World) (h:Wr b ts v W) (hg:g<W.heap.size) (ho:Off b v g) (hc:∀ i (h:i<texts.length),W.cell? ⟨g,i,none⟩=some (.string texts[i])) (hp:∀ t ∈ texts,0<t.size/\t.size<=maxLen) (hn:texts.length<=100) (hl:ts.length+texts.length<=4000000000000) :
 Calls Tryz.prog 59 #[.pointer (some ⟨b,0,none⟩),.slice (some ⟨g,0,none⟩) texts.length c] W fun e W'=>∃ v',e = .returned (.tuple #[])/\Wr b (ts++texts.map pTk) v' W'/\WK b v v' W W':=by
 obtain ⟨i0,hi,hz0,hz1,hz2⟩:=info_parts Tryz.infoTok;have HW:=hid h;have HO:=hid ho;have HC:=hid hc;have HP:=hid hp;clear h ho hc hp;go_enter Tryz.func59,Tryz.ntmps59;go_wp2_with fail
 go_loopw [9,5,6] (fun i _ _ wr=>∃ (k:Nat) (vr:Value),k<=texts.length/\i = .int .i64 k/\Wr b (ts++(texts.take k).map pTk) vr wr/\WK b v vr W wr) (fun i _ _ _=>texts.length - (intOf i).toNat)
 case atStart=>exact ⟨0,v,Nat.zero_le _,rfl,by simpa using HW.out,WK.refl _ _ _⟩
 case round=>
  obtain ⟨k,vr,hk,rfl,hW,hK⟩:=hrel;have HWr:=hid hW;have HK:=hid hK;obtain ⟨c0,f0⟩:=hW.read;have hlt:=hW.lt;obtain ⟨a,cap,rfl⟩:=hW.shape
  have hlen:(ts++(texts.take k).map pTk).length=ts.length+k:=by simp;omega
  have HRow:=hid hW.row;rw [hlen] at HRow c0
  by_cases hkl:k<texts.length
  . have hgc:=(hK.cell (off:=k) hg HO.out).trans (HC.out k hkl)
    obtain ⟨hp0,hp1⟩:=HP.out texts[k] (List.getElem_mem hkl);have hgz:g<wr.heap.size:=Nat.lt_of_lt_of_le hg hK.size
    have HT:Hid ((texts.take (k+1)).map pTk=(texts.take k).map pTk++[pTk texts[k]]):=by
     show _=_
     rw [List.take_succ_eq_append_getElem hkl,List.map_append];rfl
    have hhd:texts[k].data.toList.head? = some texts[k][0]:=by
     rw [List.head?_eq_getElem?];simp [hp0]
     rfl
    clear hW hK;generalize htt:texts[k]=t at *
    have HH:Hid (Lx.headLet t.data.toList=Lx.letB t[0]):=by
     show _=_
     cases hd:t.data.toList with
     | nil=>rw [hd] at hhd;cases hhd
     | cons x r=>
       rw [hd] at hhd;cases hhd
       rfl
    have HNe:Hid ((Value.slice a (ts.length+k) cap).ownBlock≠some b):=by
     show _≠_
     rw [← hlen];exact HWr.out.ne
    rw [hlen] at HWr HK
    by_cases hge:(97:Int)<=((t[0].toNat:Nat):Int)
    . by_cases hle:((t[0].toNat:Nat):Int)<=122
      . skip
        have HKd:Hid (pTk t=⟨1,0,t⟩):=by
         show _=_;unfold pTk;rw [HH.out];simp [Lx.letB,hge,hle]
        go_wp2_with (at_builtin;refine wpList_append_lies _ rfl _ _ 38 rfl 0 68 i0 _ 3 32 Tryz.underlying38 hi hz0 hz1 hz2 rfl (by decide) _ (ts.length+k) (cellsOf (ts++(texts.take k).map pTk)) rfl (HRow.out.alloc _) ⟨wr.heap.size,0,none⟩ 1 1 (tkCells ⟨1,0,t⟩) rfl rfl (zdb _ _ _ _ _) (zdc _) (by omega) (by unfold maxLen;omega) (by omega) (by simp) _ rfl ?_;intro gb cp w8 hown8 hg8 hat8 hlt8;have hg:wr.grownBy w8 (Value.slice a (ts.length+k) cap).ownBlock:=(World.grownBy_alloc wr _ _).trans hg8;have c8:w8.cell? ⟨b,0,none⟩=some (.slice a (ts.length+k) cap):=(hg.cell_far ⟨b,0,none⟩ hlt (fun e=>HNe.out e.symm)).trans c0;have f8:w8.frozen? ⟨b,0,none⟩=false:=(hg.frozen_far ⟨b,0,none⟩ hlt (fun e=>HNe.out e.symm)).trans f0;have hq8:b<w8.heap.size:=Nat.lt_of_lt_of_le hlt hg.size)
        obtain ⟨h1,h2⟩:=HWr.out.put (t:=⟨1,0,t⟩) hp1 hg (by
         rcases hat8 with h | h
         . exact Or.inl h
         . exact Or.inr (by simp at h;omega)) (by rw [hlen];exact hown8)
        rw [hlen] at h1 h2;have H1:=hid h1;have H2:=hid (HK.out.trans h2);clear h1 h2 hown8 hg8 hat8 hg c8 f8;go_roundw
        case rel=>exact ⟨k+1,_,by omega,by go_num,by rw [HT.out,← List.append_assoc,HKd.out];exact H1.out,H2.out⟩
        case measure=>simp [intOf];omega
      . skip
        have HKd:Hid (pTk t=⟨3,0,t⟩):=by
         show _=_;unfold pTk;rw [HH.out];simp [Lx.letB,hge,hle]
        go_wp2_with (at_builtin;refine wpList_append_lies _ rfl _ _ 38 rfl 0 68 i0 _ 3 32 Tryz.underlying38 hi hz0 hz1 hz2 rfl (by decide) _ (ts.length+k) (cellsOf (ts++(texts.take k).map pTk)) rfl (HRow.out.alloc _) ⟨wr.heap.size,0,none⟩ 1 1 (tkCells ⟨3,0,t⟩) rfl rfl (zdb _ _ _ _ _) (zdc _) (by omega) (by unfold maxLen;omega) (by omega) (by simp) _ rfl ?_;intro gb cp w8 hown8 hg8 hat8 hlt8;have hg:wr.grownBy w8 (Value.slice a (ts.length+k) cap).ownBlock:=(World.grownBy_alloc wr _ _).trans hg8;have c8:w8.cell? ⟨b,0,none⟩=some (.slice a (ts.length+k) cap):=(hg.cell_far ⟨b,0,none⟩ hlt (fun e=>HNe.out e.symm)).trans c0;have f8:w8.frozen? ⟨b,0,none⟩=false:=(hg.frozen_far ⟨b,0,none⟩ hlt (fun e=>HNe.out e.symm)).trans f0;have hq8:b<w8.heap.size:=Nat.lt_of_lt_of_le hlt hg.size)
        obtain ⟨h1,h2⟩:=HWr.out.put (t:=⟨3,0,t⟩) hp1 hg (by
         rcases hat8 with h | h
         . exact Or.inl h
         . exact Or.inr (by simp at h;omega)) (by rw [hlen];exact hown8)
        rw [hlen] at h1 h2;have H1:=hid h1;have H2:=hid (HK.out.trans h2);clear h1 h2 hown8 hg8 hat8 hg c8 f8;go_roundw
        case rel=>exact ⟨k+1,_,by omega,by go_num,by rw [HT.out,← List.append_assoc,HKd.out];exact H1.out,H2.out⟩
        case measure=>simp [intOf];omega
    . skip
      have HKd:Hid (pTk t=⟨3,0,t⟩):=by
       show _=_;unfold pTk;rw [HH.out];simp [Lx.letB,hge]
      go_wp2_with (at_builtin;refine wpList_append_lies _ rfl _ _ 38 rfl 0 68 i0 _ 3 32 Tryz.underlying38 hi hz0 hz1 hz2 rfl (by decide) _ (ts.length+k) (cellsOf (ts++(texts.take k).map pTk)) rfl (HRow.out.alloc _) ⟨wr.heap.size,0,none⟩ 1 1 (tkCells ⟨3,0,t⟩) rfl rfl (zdb _ _ _ _ _) (zdc _) (by omega) (by unfold maxLen;omega) (by omega) (by simp) _ rfl ?_;intro gb cp w8 hown8 hg8 hat8 hlt8;have hg:wr.grownBy w8 (Value.slice a (ts.length+k) cap).ownBlock:=(World.grownBy_alloc wr _ _).trans hg8;have c8:w8.cell? ⟨b,0,none⟩=some (.slice a (ts.length+k) cap):=(hg.cell_far ⟨b,0,none⟩ hlt (fun e=>HNe.out e.symm)).trans c0;have f8:w8.frozen? ⟨b,0,none⟩=false:=(hg.frozen_far ⟨b,0,none⟩ hlt (fun e=>HNe.out e.symm)).trans f0;have hq8:b<w8.heap.size:=Nat.lt_of_lt_of_le hlt hg.size)
      obtain ⟨h1,h2⟩:=HWr.out.put (t:=⟨3,0,t⟩) hp1 hg (by
       rcases hat8 with h | h
       . exact Or.inl h
       . exact Or.inr (by simp at h;omega)) (by rw [hlen];exact hown8)
      rw [hlen] at h1 h2;have H1:=hid h1;have H2:=hid (HK.out.trans h2);clear h1 h2 hown8 hg8 hat8 hg c8 f8;go_roundw
      case rel=>exact ⟨k+1,_,by omega,by go_num,by rw [HT.out,← List.append_assoc,HKd.out];exact H1.out,H2.out⟩
      case measure=>simp [intOf];omega
  . have hke:k=texts.length:=by omega
    subst hke
    have HF:Hid (Wr b (ts++texts.map pTk) (.slice a (ts++(texts.take texts.length).map pTk).length cap) wr):=by
     have:=HWr.out;rw [List.take_length] at this ⊢;exact this
    clear hW hK c0;go_wp2_with fail;go_end0;exact ⟨_,rfl,HF.out,HK.out⟩
end Go.Proofs.YtcekpobmbmnplaaGreatDoor

namespace Go.Proofs.YtcekpobmbmnplaaGreatDoor
set_option maxRecDepth 100000
set_option maxHeartbeats 1600000
open Go.RowKit Go.Shelf
theorem pk {t:ByteArray} (h:Lx.headLet t.data.toList=Lx.nameB t.data.toList):pTk t=kTk t:=by unfold pTk kTk;rw [h]
theorem pn {t:ByteArray} (h:zae t=true):pTk t=wTk t:=by
 unfold zae Lx.nameB at h;simp at h;unfold pTk wTk
 rw [h.2.1.1];rfl
theorem zeg {t:ByteArray} (h:zae t=true):0<t.size/\t.size<=maxLen:=by
 refine ⟨zrk h,?_⟩;unfold zae Lx.nameB at h;simp at h;have:=h.2.1.2;have e:=Lx.len_toList t;unfold maxLen;simp at e;omega
def zim (b:Nat) (ts:List Tk) (v:Value) (W:World) (d:List Tk) (e:Ending) (W':World):Prop:=∃ v',e = .returned (.tuple #[])/\Wr b (ts++d) v' W'/\WK b v v' W W'
theorem zg7 (b n:Nat) (t:ByteArray) (ts:List Tk) (v:Value) (W:World) (hn:n=W.heap.size) (h:Wr b ts v W) (hp:0<t.size/\t.size<=maxLen) (hl:ts.length+1<=4000000000000) :
 Calls Tryz.prog 59 #[.pointer (some ⟨b,0,none⟩),.slice (some ⟨n,0,none⟩) 1 1] (W.alloc (.cells #[.string t] 9)) (zim b ts v W [pTk t]):=by
 subst hn;refine (zqk b W.heap.size 1 [t] ts v _ (h.alloc _) (by simp) (h.own (Nat.le_refl _)) ?_ (by simpa using hp) (by simp) (by simpa using hl)).mono ?_
 . intro i hi
   rw [Lib.cell_of_heap (heap_newP W _)]
   match i,hi with
   | 0,_=>rfl
 . rintro e W' ⟨v',rfl,h1,h2⟩
   exact ⟨v',rfl,h1,(WK.of_below (al1 _ _) b v).trans h2⟩
theorem z3i (b n:Nat) (t u:ByteArray) (ts:List Tk) (v:Value) (W:World) (hn:n=W.heap.size) (h:Wr b ts v W) (hp:0<t.size/\t.size<=maxLen) (hq:0<u.size/\u.size<=maxLen) (hl:ts.length+2<=4000000000000) :
 Calls Tryz.prog 59 #[.pointer (some ⟨b,0,none⟩),.slice (some ⟨n,0,none⟩) 2 2] (W.alloc (.cells #[.string t,.string u] 9)) (zim b ts v W [pTk t,pTk u]):=by
 subst hn;refine (zqk b W.heap.size 2 [t,u] ts v _ (h.alloc _) (by simp) (h.own (Nat.le_refl _)) ?_ (by intro x hx;simp at hx;rcases hx with rfl | rfl;exact hp;exact hq) (by simp) (by simpa using hl)).mono ?_
 . intro i hi
   rw [Lib.cell_of_heap (heap_newP W _)]
   match i,hi with
   | 0,_=>rfl
   | 1,_=>rfl
 . rintro e W' ⟨v',rfl,h1,h2⟩
   exact ⟨v',rfl,h1,(WK.of_below (al1 _ _) b v).trans h2⟩
theorem z0s (b n:Nat) (t u x:ByteArray) (ts:List Tk) (v:Value) (W:World) (hn:n=W.heap.size) (h:Wr b ts v W) (hp:0<t.size/\t.size<=maxLen) (hq:0<u.size/\u.size<=maxLen) (hr:0<x.size/\x.size<=maxLen) (hl:ts.length+3<=4000000000000) :
 Calls Tryz.prog 59 #[.pointer (some ⟨b,0,none⟩),.slice (some ⟨n,0,none⟩) 3 3] (W.alloc (.cells #[.string t,.string u,.string x] 9)) (zim b ts v W [pTk t,pTk u,pTk x]):=by
 subst hn;refine (zqk b W.heap.size 3 [t,u,x] ts v _ (h.alloc _) (by simp) (h.own (Nat.le_refl _)) ?_ (by intro y hy;simp at hy;rcases hy with rfl | rfl | rfl;exact hp;exact hq;exact hr) (by simp) (by simpa using hl)).mono ?_
 . intro i hi
   rw [Lib.cell_of_heap (heap_newP W _)]
   match i,hi with
   | 0,_=>rfl
   | 1,_=>rfl
   | 2,_=>rfl
 . rintro e W' ⟨v',rfl,h1,h2⟩
   exact ⟨v',rfl,h1,(WK.of_below (al1 _ _) b v).trans h2⟩
theorem zim.of {b:Nat} {ts d d':List Tk} {v v':Value} {W W':World} (h:Wr b (ts++d++d') v' W') (k:WK b v v' W W'):zim b ts v W (d++d') (.returned (.tuple #[])) W':=by
 rw [List.append_assoc] at h;exact ⟨v',rfl,h,k⟩
theorem zs6 (b:Nat) (m n:ByteArray) (ts:List Tk) (v:Value) (W:World) (h:Wr b ts v W) (hn:zae n=true) (hm:m.size=0\/zae m=true) (hl:ts.length+(refT m n).length<=4000000000000) :
 Calls Tryz.prog 138 #[.pointer (some ⟨b,0,none⟩),.string m,.string n] W (zim b ts v W (refT m n)):=by
 have HW:=hid h;have hlt:=h.lt;have hpn:=pn hn;have hnf:=zeg hn;clear h
 by_cases h0:m.size=0
 . have HR:Hid (refT m n=[pTk n]):=by show _=_;unfold refT;rw [if_pos h0,hpn]
   have hme:m.toList.isEmpty=true:=by
    rw [Lib.toList_data,List.isEmpty_iff];exact List.eq_nil_of_length_eq_zero (by rw [Lx.len_toList];exact h0)
   rw [HR.out] at hl ⊢;go_enter Tryz.func138,Tryz.ntmps138;go_wp2_with fail;refine (zg7 b _ n ts v W rfl HW.out hnf (by simpa using hl)).mono ?_;rintro e W1 ⟨v1,rfl,h1,k1⟩;go_wp2_with fail;go_end0;exact ⟨v1,rfl,h1,k1⟩
 . have hmo:=hm.resolve_left h0
   have HR:Hid (refT m n=[pTk m,pTk tDot]++[pTk n]):=by show _=_;unfold refT;rw [if_neg h0,hpn,pn hmo];rfl
   have hmf:=zeg hmo
   have hme:m.toList.isEmpty=false:=by
    cases hh:m.toList.isEmpty with
    | false=>rfl
    | true=>
      rw [Lib.toList_data,List.isEmpty_iff] at hh;have:=Lx.len_toList m;rw [hh] at this;simp at this;omega
   rw [HR.out] at hl ⊢;simp at hl;go_enter Tryz.func138,Tryz.ntmps138;go_wp2_with fail;refine (z3i b _ m tDot ts v W rfl HW.out hmf (by decide) (by omega)).mono ?_;rintro e W1 ⟨v1,rfl,h1,k1⟩;have H1:=hid h1;have hz1:=k1.size;have hlt1:=h1.lt;clear h1;go_wp2_with fail;refine (zg7 b _ n _ v1 W1 rfl H1.out hnf (by simp;omega)).mono ?_;rintro e W2 ⟨v2,rfl,h2,k2⟩;go_wp2_with fail;go_end0;exact zim.of h2 (k1.trans k2)
theorem w4 {b k:Nat} {v0 v v':Value} {W0 W W':World} {ts A B:List Tk} {u0 u1 u2 u3:Value} (hh:Wr b (ts++A++B) v' W') (kk:WK b v v' W W') (K:Hid (WK b v0 v W0 W)) (hx:k<W.heap.size) (hf:Hid (Off b v k)) (h0:W.cell? ⟨k,0,none⟩=some u0) (h1:W.cell? ⟨k,1,none⟩=some u1) (h2:W.cell? ⟨k,2,none⟩=some u2) (h3:W.cell? ⟨k,3,none⟩=some u3) :
 Hid (Wr b (ts++(A++B)) v' W')/\Hid (WK b v0 v' W0 W')/\b<W'.heap.size/\W.heap.size<=W'.heap.size/\W'.cell? ⟨k,0,none⟩=some u0/\W'.cell? ⟨k,1,none⟩=some u1/\W'.cell? ⟨k,2,none⟩=some u2/\W'.cell? ⟨k,3,none⟩=some u3/\Hid (Off b v' k)/\k<W'.heap.size:=
 ⟨List.append_assoc ts A B ▸ hh,K.out.trans kk,hh.lt,kk.size,(kk.cell (off:=0) hx hf.out).trans h0,(kk.cell (off:=1) hx hf.out).trans h1,(kk.cell (off:=2) hx hf.out).trans h2,(kk.cell (off:=3) hx hf.out).trans h3,kk.off hx hf.out,Nat.lt_of_lt_of_le hx kk.size⟩
theorem w5 {b k:Nat} {v0 v v':Value} {W0 W W':World} {ts A B:List Tk} {u0 u1 u2 u3 u4:Value} (hh:Wr b (ts++A++B) v' W') (kk:WK b v v' W W') (K:Hid (WK b v0 v W0 W)) (hx:k<W.heap.size) (hf:Hid (Off b v k)) (h0:W.cell? ⟨k,0,none⟩=some u0) (h1:W.cell? ⟨k,1,none⟩=some u1) (h2:W.cell? ⟨k,2,none⟩=some u2) (h3:W.cell? ⟨k,3,none⟩=some u3) (h4:W.cell? ⟨k,4,none⟩=some u4) :
 Hid (Wr b (ts++(A++B)) v' W')/\Hid (WK b v0 v' W0 W')/\b<W'.heap.size/\W.heap.size<=W'.heap.size/\W'.cell? ⟨k,0,none⟩=some u0/\W'.cell? ⟨k,1,none⟩=some u1/\W'.cell? ⟨k,2,none⟩=some u2/\W'.cell? ⟨k,3,none⟩=some u3/\W'.cell? ⟨k,4,none⟩=some u4/\Hid (Off b v' k)/\k<W'.heap.size:=
 ⟨List.append_assoc ts A B ▸ hh,K.out.trans kk,hh.lt,kk.size,(kk.cell (off:=0) hx hf.out).trans h0,(kk.cell (off:=1) hx hf.out).trans h1,(kk.cell (off:=2) hx hf.out).trans h2,(kk.cell (off:=3) hx hf.out).trans h3,(kk.cell (off:=4) hx hf.out).trans h4,kk.off hx hf.out,Nat.lt_of_lt_of_le hx kk.size⟩
theorem w6 {b k:Nat} {v0 v v':Value} {W0 W W':World} {ts A B:List Tk} {u0 u1 u2 u3 u4 u5:Value} (hh:Wr b (ts++A++B) v' W') (kk:WK b v v' W W') (K:Hid (WK b v0 v W0 W)) (hx:k<W.heap.size) (hf:Hid (Off b v k)) (h0:W.cell? ⟨k,0,none⟩=some u0) (h1:W.cell? ⟨k,1,none⟩=some u1) (h2:W.cell? ⟨k,2,none⟩=some u2) (h3:W.cell? ⟨k,3,none⟩=some u3) (h4:W.cell? ⟨k,4,none⟩=some u4) (h5:W.cell? ⟨k,5,none⟩=some u5) :
 Hid (Wr b (ts++(A++B)) v' W')/\Hid (WK b v0 v' W0 W')/\b<W'.heap.size/\W.heap.size<=W'.heap.size/\W'.cell? ⟨k,0,none⟩=some u0/\W'.cell? ⟨k,1,none⟩=some u1/\W'.cell? ⟨k,2,none⟩=some u2/\W'.cell? ⟨k,3,none⟩=some u3/\W'.cell? ⟨k,4,none⟩=some u4/\W'.cell? ⟨k,5,none⟩=some u5/\Hid (Off b v' k)/\k<W'.heap.size:=
 ⟨List.append_assoc ts A B ▸ hh,K.out.trans kk,hh.lt,kk.size,(kk.cell (off:=0) hx hf.out).trans h0,(kk.cell (off:=1) hx hf.out).trans h1,(kk.cell (off:=2) hx hf.out).trans h2,(kk.cell (off:=3) hx hf.out).trans h3,(kk.cell (off:=4) hx hf.out).trans h4,(kk.cell (off:=5) hx hf.out).trans h5,kk.off hx hf.out,Nat.lt_of_lt_of_le hx kk.size⟩
end Go.Proofs.YtcekpobmbmnplaaGreatDoor
