/-
  What Parse answers.
-/
import Derived.Test.YtcekpobmbmnplaaGreatDoorQa
import Derived.Test.YtcekpobmbmnplaaGreatDoorPo
import Derived.Test.YtcekpobmbmnplaaGreatDoorCe
import Derived.Test.YtcekpobmbmnplaaGreatDoorPk
namespace Go.Proofs.YtcekpobmbmnplaaGreatDoor
open Go.RowKit Go.Shelf
theorem lexT_good (s : ByteArray) : Good (lexT s) := by
  unfold lexT
  split
  · exact ⟨⟨rfl, rfl⟩, by simp⟩
  · rename_i hs
    cases h : lexAt s 0 with
    | none => exact ⟨⟨rfl, rfl⟩, by simp⟩
    | some ts =>
      rw [lexAt_zero] at h
      have := lexL_right _ _ ts rfl h
      rw [Lx.len_toList] at this
      exact ⟨this.1, by show ts.length ≤ 4096; omega⟩
theorem pAll_sound {ts : List Tk} {m : Mo} (h : pAll ts = some m) (hg : Good ts) : ts = tM m ∧ Fine m := by
  unfold pAll at h
  split at h
  · rename_i m' hm
    cases h
    have := pModule_sound hm hg
    simpa using this
  · cases h
theorem mo_at {A : Nat → Prop} {m : Mo} {w : World} {v : Value} (h : MoRep A m w v) (hf : Fine m) : ∃ a1 c1 a2 c2 a3 c3 a4 c4, MoAt w Tt m v a1 c1 a2 c2 a3 c3 a4 c4 := by
  obtain ⟨a1, c1, a2, c2, a3, c3, a4, c4, rfl, h0, h1, h2, h3, h4⟩ := h
  have hm : Moves w A w Tt := ⟨Nat.le_refl _, fun _ _ _ => ⟨trivial, rfl⟩⟩
  have l2 : (desD m.decls).length = 4 * m.decls.length := by
    have : ∀ l : List De, (desD l).length = 4 * l.length := by
      intro l
      induction l with
      | nil => rfl
      | cons x r ih =>
        show (x.ds ++ desD r).length = _
        rw [List.length_append, ih]
        simp [De.ds]; omega
    exact this _
  have l3 : (prsD m.procs).length = 5 * m.procs.length := by
    have : ∀ l : List Pr, (prsD l).length = 5 * l.length := by
      intro l
      induction l with
      | nil => rfl
      | cons x r ih =>
        show (x.ds ++ prsD r).length = _
        rw [List.length_append, ih]
        simp [Pr.ds]; omega
    exact this _
  have k1 := hf.uses
  have k2 := hf.decls
  have k3 := hf.procs
  have k4 := hf.main
  exact ⟨a1, c1, a2, c2, a3, c3, a4, c4, rfl, h0, (h1.moves hm).toD (by simp [strsD]) (by simp [strsD]; omega) (strs_fine _), (h2.moves hm).toD (by rw [l2]; omega) (by rw [l2]; omega) hf.fd, (h3.moves hm).toD (by rw [l3]; omega) (by rw [l3]; omega) hf.fp, (h4.moves hm).toD (by rw [stsD_len]; omega) (by rw [stsD_len]; omega) hf.fm⟩
theorem below_set5 {B b : Nat} {a w : World} (h : Below B a w) (hb : B ≤ b) (v0 v1 v2 v3 v4 : Value) : Below B a (set5 w b v0 v1 v2 v3 v4) :=
  ((((h.setCell (p := ⟨b, 0, none⟩) hb _).setCell (p := ⟨b, 1, none⟩) hb _).setCell (p := ⟨b, 2, none⟩) hb _).setCell (p := ⟨b, 3, none⟩) hb _).setCell (p := ⟨b, 4, none⟩) hb _
theorem MoRep.moves {A A' : Nat → Prop} {m : Mo} {w w' : World} {v : Value} (h : MoRep A m w v) (hm : Moves w A w' A') : MoRep A' m w' v := by
  obtain ⟨a1, c1, a2, c2, a3, c3, a4, c4, rfl, h0, h1, h2, h3, h4⟩ := h
  exact ⟨a1, c1, a2, c2, a3, c3, a4, c4, rfl, h0, h1.moves hm, h2.moves hm, h3.moves hm, h4.moves hm⟩
def parsR (s : ByteArray) : Option Mo := if lexE s = 0 then (match pAll (lexT s) with | some m => if m.err = 0 then some m else none | none => none) else none
def parsE (s : ByteArray) : Int := if lexE s = 0 then (match parsR s with | some _ => 0 | none => 1) else lexE s
def parseEnd (s : ByteArray) (e : Ending) (w : World) : Prop :=
  (parsR s = none ∧ parsE s ≠ 0 ∧ e = .returned (.tuple #[moNone, .int .i64 (parsE s)])) ∨
  ∃ m v a1 c1 a2 c2 a3 c3 a4 c4, parsR s = some m ∧ parsE s = 0 ∧ e = .returned (.tuple #[v, .int .i64 0]) ∧ MoAt w Tt m v a1 c1 a2 c2 a3 c3 a4 c4
set_option maxRecDepth 100000 in
set_option maxHeartbeats 1600000 in
theorem Parse_any (s : ByteArray) (w : World) (hs : s.size ≤ maxLen) :
    Calls Tryz.prog 9 #[.string s] w fun e w' => parseEnd s e w' ∧ Below w.heap.size w w' := by
  have HG := hid (lexT_good s)
  go_enter Tryz.func9, Tryz.ntmps9
  go_wp2_with fail
  refine (Lex_any s _ hs).mono ?_
  rintro e w1 ⟨a, cap, rfl, hT, hb1⟩
  have HT := hid hT
  have hz1 := hb1.size
  simp at hz1
  have HB1 : Hid (w1.heap[w.heap.size]? = some moZero) := (hb1.block w.heap.size (by simp)).trans (heap_newP _ _)
  have HBl : Hid (Below w.heap.size w w1) := thenB (al1 _ _) hb1
  clear hT hb1
  obtain ⟨h0, h1, h2, h3, h4, h5⟩ := cellsOf5 HB1.out
  have hlt1 : w.heap.size < w1.heap.size := by omega
  by_cases he : lexE s = 0
  · have HE := hid he
    rw [he]
    clear he
    generalize hts : lexT s = ts at *
    go_wp2_with fail
    refine (parsed_any ts a cap w1 HT.out HG.out.2).mono ?_
    rintro e w2 ⟨hb2, ⟨hn, rfl⟩ | ⟨m, v, hn, rfl, hM⟩⟩
    · have HN : Hid (parsR s = none ∧ parsE s = 1) := by
        have h : parsR s = none := by unfold parsR; rw [if_pos HE.out, hts, hn]
        refine ⟨h, ?_⟩
        unfold parsE; rw [if_pos HE.out, h]
      have HBl2 := hid (thenB HBl.out hb2)
      have hz2 := hb2.size
      have HB2 : Hid (w2.heap[w.heap.size]? = some moZero) := (hb2.block w.heap.size hlt1).trans HB1.out
      have HB3 := hid (heap_old (o := moZero) HB2.out)
      clear h0 h1 h2 h3 h4 h5 hb2
      obtain ⟨h0, h1, h2, h3, h4, h5⟩ := cellsOf5 HB2.out
      have hlt2 : w.heap.size < w2.heap.size := by omega
      have hBx := below_set5 HBl2.out (Nat.le_refl _) (.string ⟨#[]⟩) (.slice none 0 0) (.slice none 0 0) (.slice none 0 0) (.slice none 0 0)
      have HBf := hid (hBx.alloc hBx.size moZero)
      clear hBx
      go_wp2_with fail
      refine bodyPost_ret (v := .tuple #[moNone, .int .i64 1]) (by simp [results, Tryz.results9, go_sem, h0, h1, h2, h3, h4, hlt2]) rfl ⟨Or.inl ⟨HN.out.1, by rw [HN.out.2]; decide, by rw [HN.out.2]⟩, HBf.out⟩
    · obtain ⟨e1, hF⟩ := pAll_sound hn HG.out
      have HF := hid hF
      have HM := hid hM
      obtain ⟨a1, c1, a2, c2, a3, c3, a4, c4, rfl, _⟩ := hM
      have HN := hid hn
      have HBl2 := hid (thenB HBl.out hb2)
      have hz2 := hb2.size
      have HB2 : Hid (w2.heap[w.heap.size]? = some moZero) := (hb2.block w.heap.size hlt1).trans HB1.out
      have hCk : ∀ W, Below w2.heap.size w2 W → Calls Tryz.prog 7 #[.agg #[.string m.name, .slice a1 m.uses.length c1, .slice a2 m.decls.length c2, .slice a3 m.procs.length c3, .slice a4 m.main.length c4]] W fun e w' => e = .returned (.int .i64 m.err) ∧ Below W.heap.size W w' := fun W hW => by
        obtain ⟨b1, d1, b2, d2, b3, d3, b4, d4, hA⟩ := mo_at (HM.out.moves (Moves.of_below hW _)) HF.out
        exact tCheck_any m _ _ _ _ _ _ _ _ _ W hA
      have HCk := hid hCk
      clear h0 h1 h2 h3 h4 h5 hb2 e1 hF hn hCk
      have hlt2 : w.heap.size < w2.heap.size := by omega
      go_wp2_with fail
      refine (HCk.out _ (al1 _ _)).mono ?_
      rintro e w3 ⟨rfl, hb3⟩
      have hz3 := hb3.size
      simp at hz3
      have HB3 : Hid (w3.heap[w.heap.size]? = some moZero) := (hb3.block w.heap.size (by simp; omega)).trans (heap_old HB2.out)
      have HV3 : Hid (w3.heap[w2.heap.size]? = some (.cells #[.string m.name, .slice a1 m.uses.length c1, .slice a2 m.decls.length c2, .slice a3 m.procs.length c3, .slice a4 m.main.length c4] 27 (0, 0))) := (hb3.block w2.heap.size (by simp)).trans (heap_newP _ _)
      have HBl3 := hid (thenB HBl2.out (thenB (al1 _ _) hb3))
      have HM3 : Hid (MoRep (w1.heap.size ≤ ·) m w3 (.agg #[.string m.name, .slice a1 m.uses.length c1, .slice a2 m.decls.length c2, .slice a3 m.procs.length c3, .slice a4 m.main.length c4])) := HM.out.moves ((Moves.of_below (al1 _ _) _).trans (Moves.of_below hb3 _))
      obtain ⟨h0, h1, h2, h3, h4, h5⟩ := cellsOf5 HB3.out
      obtain ⟨g0, g1, g2, g3, g4, g5⟩ := cellsOf5 HV3.out
      have hlt3 : w.heap.size < w3.heap.size := by omega
      have hlt4 : w2.heap.size < w3.heap.size := by omega
      clear hb3 HCk HM HB2
      by_cases hr : m.err = 0
      · have HP : Hid (parsR s = some m ∧ parsE s = 0) := by
          have h : parsR s = some m := by unfold parsR; rw [if_pos HE.out, hts, HN.out]; simp [hr]
          refine ⟨h, ?_⟩
          unfold parsE; rw [if_pos HE.out, h]
        have HBf := hid (below_set5 HBl3.out (Nat.le_refl _) (.string m.name) (.slice a1 m.uses.length c1) (.slice a2 m.decls.length c2) (.slice a3 m.procs.length c3) (.slice a4 m.main.length c4))
        have HMf := hid (mo_at (HM3.out.moves (((Moves.refl w3 (w1.heap.size ≤ ·)).set5 (b := w.heap.size) (fun k _ hk => by omega) (.string m.name) (.slice a1 m.uses.length c1) (.slice a2 m.decls.length c2) (.slice a3 m.procs.length c3) (.slice a4 m.main.length c4)))) HF.out)
        have hrb : (m.err == 0) = true := by simp [hr]
        rw [hr]
        go_wp2_with fail
        refine bodyPost_ret (v := .tuple #[.agg #[.string m.name, .slice a1 m.uses.length c1, .slice a2 m.decls.length c2, .slice a3 m.procs.length c3, .slice a4 m.main.length c4], .int .i64 0]) (by simp [results, Tryz.results9, go_sem, h0, h1, h2, h3, h4]) rfl ⟨Or.inr ?_, HBf.out⟩
        obtain ⟨b1, d1, b2, d2, b3, d3, b4, d4, hA⟩ := HMf.out
        exact ⟨m, _, b1, d1, b2, d2, b3, d3, b4, d4, HP.out.1, HP.out.2, rfl, hA⟩
      · have HN' : Hid (parsR s = none ∧ parsE s = 1) := by
          have h : parsR s = none := by unfold parsR; rw [if_pos HE.out, hts, HN.out]; simp [hr]
          refine ⟨h, ?_⟩
          unfold parsE; rw [if_pos HE.out, h]
        have HBf := hid (below_set5 HBl3.out (Nat.le_refl _) (.string ⟨#[]⟩) (.slice none 0 0) (.slice none 0 0) (.slice none 0 0) (.slice none 0 0))
        have hrb : (m.err == 0) = false := by simp [hr]
        have hrb2 : (m.err != 0) = true := by simp [hr]
        generalize m.err = er at *
        go_wp2_with fail
        refine bodyPost_ret (v := .tuple #[moNone, .int .i64 1]) (by simp [results, Tryz.results9, go_sem, h0, h1, h2, h3, h4]) rfl ⟨Or.inl ⟨HN'.out.1, by rw [HN'.out.2]; decide, by rw [HN'.out.2]⟩, HBf.out⟩
  · have HN : Hid (parsR s = none ∧ parsE s = lexE s) := by
      refine ⟨by unfold parsR; rw [if_neg he], ?_⟩
      unfold parsE; rw [if_neg he]
    have HBf := hid (below_set5 HBl.out (Nat.le_refl _) (.string ⟨#[]⟩) (.slice none 0 0) (.slice none 0 0) (.slice none 0 0) (.slice none 0 0))
    have hrb : (lexE s == 0) = false := by simp [he]
    go_wp2_with fail
    refine bodyPost_ret (v := .tuple #[moNone, .int .i64 (lexE s)]) (by simp [results, Tryz.results9, go_sem, h0, h1, h2, h3, h4]) rfl ⟨Or.inl ⟨HN.out.1, by rw [HN.out.2]; exact he, by rw [HN.out.2]⟩, HBf.out⟩
end Go.Proofs.YtcekpobmbmnplaaGreatDoor

namespace Go.Proofs.YtcekpobmbmnplaaGreatDoor
open Go.RowKit Go.Shelf
theorem put_grownP (w : World) (b j : Nat) (u : Value) : w.grownBy (w.setCell ⟨b, j, Option.none⟩ u) (Option.some b) :=
  ⟨rfl, rfl, rfl, by simp [World.setCell], fun k _ hk => Below.heap_setCell _ _ _ _ (fun e => hk (congrArg Option.some e))⟩
structure Wr (b : Nat) (ts : List Tk) (v : Value) (W : World) : Prop where
  cell : W.heap[b]? = some (.cells #[v] 102 (0, 0))
  row : W.ownsRow 0 68 3 v ts.length (cellsOf ts)
  ne : v.ownBlock ≠ some b
  fit : AllFit ts
def Off (b : Nat) (v : Value) (k : Nat) : Prop := k ≠ b ∧ v.ownBlock ≠ some k
structure WK (b : Nat) (v v' : Value) (W W' : World) : Prop where
  os : W'.os = W.os
  tape : W'.tape = W.tape
  output : W'.output = W.output
  size : W.heap.size ≤ W'.heap.size
  block : ∀ k, k < W.heap.size → Off b v k → W'.heap[k]? = W.heap[k]?
  own : ∀ k, v'.ownBlock = some k → v.ownBlock = some k ∨ W.heap.size ≤ k
section
variable {b : Nat} {v v' v'' : Value} {W W' W'' : World}
theorem WK.refl (b : Nat) (v : Value) (W : World) : WK b v v W W := ⟨rfl, rfl, rfl, Nat.le_refl _, fun _ _ _ => rfl, fun _ h => Or.inl h⟩
theorem WK.off (h : WK b v v' W W') {k : Nat} (hk : k < W.heap.size) (ho : Off b v k) : Off b v' k := ⟨ho.1, fun e => by
  rcases h.own k e with h1 | h1
  · exact ho.2 h1
  · omega⟩
theorem WK.trans (h : WK b v v' W W') (k : WK b v' v'' W' W'') : WK b v v'' W W'' where
  os := k.os.trans h.os
  tape := k.tape.trans h.tape
  output := k.output.trans h.output
  size := Nat.le_trans h.size k.size
  block := fun i hi ho => (k.block i (Nat.lt_of_lt_of_le hi h.size) (h.off hi ho)).trans (h.block i hi ho)
  own := fun i hi => by
    rcases k.own i hi with h1 | h1
    · exact h.own i h1
    · exact Or.inr (Nat.le_trans h.size h1)
theorem WK.of_below (hb : Below W.heap.size W W') (b : Nat) (v : Value) : WK b v v W W' := ⟨hb.os, hb.tape, hb.output, hb.size, fun k hk _ => hb.block k hk, fun _ h => Or.inl h⟩
theorem WK.alloc (h : WK b v v' W W') (o : Obj) : WK b v v' W (W'.alloc o) := h.trans (WK.of_below (al1 _ _) b v')
theorem WK.moves (h : WK b v v' W W') : Moves W (Off b v) W' (Off b v') := ⟨h.size, fun k hk ho => ⟨h.off hk ho, h.block k hk ho⟩⟩
theorem WK.cell (h : WK b v v' W W') {k off : Nat} (hk : k < W.heap.size) (ho : Off b v k) : W'.cell? ⟨k, off, none⟩ = W.cell? ⟨k, off, none⟩ := World.cell?_of_block (w := W) (h.block k hk ho)
theorem Wr.later {ts : List Tk} (h : Wr b ts v W) (hb : Below W.heap.size W W') : Wr b ts v W' := ⟨(hb.block b (lt_of_heap h.cell)).trans h.cell, ownsRow_later h.row hb, h.ne, h.fit⟩
theorem Wr.alloc {ts : List Tk} (h : Wr b ts v W) (o : Obj) : Wr b ts v (W.alloc o) := h.later (al1 _ _)
theorem Wr.lt {ts : List Tk} (h : Wr b ts v W) : b < W.heap.size := lt_of_heap h.cell
theorem Wr.own {ts : List Tk} (h : Wr b ts v W) {k : Nat} (hk : W.heap.size ≤ k) : Off b v k := ⟨by have := h.lt; omega, fun e => by have := (h.row.lt k e).2; omega⟩
theorem Wr.read {ts : List Tk} (h : Wr b ts v W) : W.cell? ⟨b, 0, none⟩ = some v ∧ W.frozen? ⟨b, 0, none⟩ = false := by
  refine ⟨by rw [Lib.cell_of_heap h.cell]; rfl, ?_⟩
  unfold World.frozen?
  simp only
  rw [h.cell]
  simp
theorem Wr.shape {ts : List Tk} (h : Wr b ts v W) : ∃ a cap, v = .slice a ts.length cap := by
  rcases h.row.2 with ⟨h1, h2⟩ | ⟨g, cap, cur, h1, _⟩
  · exact ⟨none, 0, by rw [h2]; exact h1⟩
  · exact ⟨_, _, h1⟩
theorem Wr.put {ts : List Tk} {t : Tk} {g cp : Nat} (h : Wr b ts v W) (hf : t.fits) (hg : W.grownBy W' v.ownBlock) (hat : v.ownBlock = some g ∨ W.heap.size ≤ g) (ho : W'.ownsRow 0 68 3 (.slice (some ⟨g, 0, none⟩) (ts.length + 1) cp) (ts.length + 1) (cellsOf ts ++ tkCells t)) :
    Wr b (ts ++ [t]) (.slice (some ⟨g, 0, none⟩) (ts.length + 1) cp) (W'.setCell ⟨b, 0, none⟩ (.slice (some ⟨g, 0, none⟩) (ts.length + 1) cp)) ∧ WK b v (.slice (some ⟨g, 0, none⟩) (ts.length + 1) cp) W (W'.setCell ⟨b, 0, none⟩ (.slice (some ⟨g, 0, none⟩) (ts.length + 1) cp)) := by
  have hlt := h.lt
  have hgb : g ≠ b := by
    rcases hat with h1 | h1
    · intro e; exact h.ne (by rw [h1, e])
    · omega
  have hcb : W'.heap[b]? = some (.cells #[v] 102 (0, 0)) := (hg.block b hlt (fun e => h.ne e.symm)).trans h.cell
  refine ⟨⟨heap_set hcb _, ?_, by simp [Value.ownBlock]; exact hgb, ?_⟩, ⟨hg.os, hg.tape, hg.output, by rw [World.size_setCell]; exact hg.size, fun k hk hoff => ?_, fun k hk => ?_⟩⟩
  · rw [cellsOf_snoc, List.length_append]
    exact ho.kept (put_grownP _ _ _ _) (Or.inr (by simp [Value.ownBlock]; exact hgb))
  · intro i hi
    rw [List.length_append] at hi
    simp at hi
    rcases Nat.lt_or_ge i ts.length with h1 | h1
    · rw [List.getElem_append_left h1]; exact h.fit i h1
    · rw [List.getElem_append_right h1]
      simpa using hf
  · rw [heap_set_ne (by show k ≠ b; exact hoff.1)]
    exact hg.block k hk (fun e => hoff.2 e.symm)
  · have e : g = k := by simpa [Value.ownBlock] using hk
    subst e
    rcases hat with h1 | h1
    · exact Or.inl h1
    · exact Or.inr (by omega)
end
def pTk (t : ByteArray) : Tk := ⟨if Lx.headLet t.data.toList then 1 else 3, 0, t⟩
set_option maxRecDepth 100000 in
set_option maxHeartbeats 1600000 in
theorem number_any_w (b : Nat) (ts : List Tk) (v : Value) (n : Int) (W : World) (h : Wr b ts v W) (hl : ts.length + 1 ≤ 4000000000000) :
    Calls Tryz.prog 99 #[.pointer (some ⟨b, 0, none⟩), .int .i64 n] W fun e W' => ∃ v', e = .returned (.tuple #[]) ∧ Wr b (ts ++ [nTk n]) v' W' ∧ WK b v v' W W' := by
  obtain ⟨i0, hi, hz0, hz1, hz2⟩ := info_parts Tryz.infoTok
  have HW := hid h
  obtain ⟨c0, f0⟩ := h.read
  have hlt := h.lt
  obtain ⟨a, cap, rfl⟩ := h.shape
  have HRow := hid h.row
  clear h
  go_enter Tryz.func99, Tryz.ntmps99
  go_wp2_with (at_builtin; refine wpList_append_lies _ rfl _ _ 38 rfl 0 68 i0 _ 3 32 Tryz.underlying38 hi hz0 hz1 hz2 rfl (by decide) _ ts.length (cellsOf ts) rfl (HRow.out.alloc _) ⟨W.heap.size, 0, none⟩ 1 1 (tkCells (nTk n)) rfl rfl (three_new _ _ _ _ _) (three_one _) (by omega) (by unfold maxLen; omega) (by omega) (by simp) _ rfl ?_; intro gb cp w8 hown8 hg8 hat8 hlt8; have hg : W.grownBy w8 (Value.slice a ts.length cap).ownBlock := (World.grownBy_alloc W _ _).trans hg8; have c8 : w8.cell? ⟨b, 0, none⟩ = some (.slice a ts.length cap) := (hg.cell_far ⟨b, 0, none⟩ hlt (fun e => HW.out.ne e.symm)).trans c0; have f8 : w8.frozen? ⟨b, 0, none⟩ = false := (hg.frozen_far ⟨b, 0, none⟩ hlt (fun e => HW.out.ne e.symm)).trans f0; have hq8 : b < w8.heap.size := Nat.lt_of_lt_of_le hlt hg.size)
  go_end0
  obtain ⟨h1, h2⟩ := HW.out.put (t := nTk n) (by show (⟨#[]⟩ : ByteArray).size ≤ maxLen; unfold maxLen; decide) hg (by
    rcases hat8 with h | h
    · exact Or.inl h
    · exact Or.inr (by simp at h; omega)) hown8
  exact ⟨_, rfl, h1, h2⟩
set_option maxRecDepth 100000 in
set_option maxHeartbeats 1600000 in
theorem put_any (b g c : Nat) (texts : List ByteArray) (ts : List Tk) (v : Value) (W : World) (h : Wr b ts v W) (hg : g < W.heap.size) (ho : Off b v g) (hc : ∀ i (h : i < texts.length), W.cell? ⟨g, i, none⟩ = some (.string texts[i])) (hp : ∀ t ∈ texts, 0 < t.size ∧ t.size ≤ maxLen) (hn : texts.length ≤ 100) (hl : ts.length + texts.length ≤ 4000000000000) :
    Calls Tryz.prog 59 #[.pointer (some ⟨b, 0, none⟩), .slice (some ⟨g, 0, none⟩) texts.length c] W fun e W' => ∃ v', e = .returned (.tuple #[]) ∧ Wr b (ts ++ texts.map pTk) v' W' ∧ WK b v v' W W' := by
  obtain ⟨i0, hi, hz0, hz1, hz2⟩ := info_parts Tryz.infoTok
  have HW := hid h
  have HO := hid ho
  have HC := hid hc
  have HP := hid hp
  clear h ho hc hp
  go_enter Tryz.func59, Tryz.ntmps59
  go_wp2_with fail
  go_loopw [9, 5, 6] (fun i _ _ wr => ∃ (k : Nat) (vr : Value), k ≤ texts.length ∧ i = .int .i64 k ∧ Wr b (ts ++ (texts.take k).map pTk) vr wr ∧ WK b v vr W wr) (fun i _ _ _ => texts.length - (intOf i).toNat)
  case atStart => exact ⟨0, v, Nat.zero_le _, rfl, by simpa using HW.out, WK.refl _ _ _⟩
  case round =>
    obtain ⟨k, vr, hk, rfl, hW, hK⟩ := hrel
    have HWr := hid hW
    have HK := hid hK
    obtain ⟨c0, f0⟩ := hW.read
    have hlt := hW.lt
    obtain ⟨a, cap, rfl⟩ := hW.shape
    have hlen : (ts ++ (texts.take k).map pTk).length = ts.length + k := by simp; omega
    have HRow := hid hW.row
    rw [hlen] at HRow c0
    by_cases hkl : k < texts.length
    · have hgc := (hK.cell (off := k) hg HO.out).trans (HC.out k hkl)
      obtain ⟨hp0, hp1⟩ := HP.out texts[k] (List.getElem_mem hkl)
      have hgz : g < wr.heap.size := Nat.lt_of_lt_of_le hg hK.size
      have HT : Hid ((texts.take (k + 1)).map pTk = (texts.take k).map pTk ++ [pTk texts[k]]) := by
        show _ = _
        rw [List.take_succ_eq_append_getElem hkl, List.map_append]; rfl
      have hhd : texts[k].data.toList.head? = some texts[k][0] := by
        rw [List.head?_eq_getElem?]
        simp [hp0]
        rfl
      clear hW hK
      generalize htt : texts[k] = t at *
      have HH : Hid (Lx.headLet t.data.toList = Lx.letB t[0]) := by
        show _ = _
        cases hd : t.data.toList with
        | nil => rw [hd] at hhd; cases hhd
        | cons x r =>
          rw [hd] at hhd
          cases hhd
          rfl
      have HNe : Hid ((Value.slice a (ts.length + k) cap).ownBlock ≠ some b) := by
        show _ ≠ _
        rw [← hlen]; exact HWr.out.ne
      rw [hlen] at HWr HK
      by_cases hge : (97 : Int) ≤ ((t[0].toNat : Nat) : Int)
      · by_cases hle : ((t[0].toNat : Nat) : Int) ≤ 122
        · skip
          have HKd : Hid (pTk t = ⟨1, 0, t⟩) := by
            show _ = _
            unfold pTk
            rw [HH.out]
            simp [Lx.letB, hge, hle]
          go_wp2_with (at_builtin; refine wpList_append_lies _ rfl _ _ 38 rfl 0 68 i0 _ 3 32 Tryz.underlying38 hi hz0 hz1 hz2 rfl (by decide) _ (ts.length + k) (cellsOf (ts ++ (texts.take k).map pTk)) rfl (HRow.out.alloc _) ⟨wr.heap.size, 0, none⟩ 1 1 (tkCells ⟨1, 0, t⟩) rfl rfl (three_new _ _ _ _ _) (three_one _) (by omega) (by unfold maxLen; omega) (by omega) (by simp) _ rfl ?_; intro gb cp w8 hown8 hg8 hat8 hlt8; have hg : wr.grownBy w8 (Value.slice a (ts.length + k) cap).ownBlock := (World.grownBy_alloc wr _ _).trans hg8; have c8 : w8.cell? ⟨b, 0, none⟩ = some (.slice a (ts.length + k) cap) := (hg.cell_far ⟨b, 0, none⟩ hlt (fun e => HNe.out e.symm)).trans c0; have f8 : w8.frozen? ⟨b, 0, none⟩ = false := (hg.frozen_far ⟨b, 0, none⟩ hlt (fun e => HNe.out e.symm)).trans f0; have hq8 : b < w8.heap.size := Nat.lt_of_lt_of_le hlt hg.size)
          obtain ⟨h1, h2⟩ := HWr.out.put (t := ⟨1, 0, t⟩) hp1 hg (by
            rcases hat8 with h | h
            · exact Or.inl h
            · exact Or.inr (by simp at h; omega)) (by rw [hlen]; exact hown8)
          rw [hlen] at h1 h2
          have H1 := hid h1
          have H2 := hid (HK.out.trans h2)
          clear h1 h2 hown8 hg8 hat8 hg c8 f8
          go_roundw
          case rel => exact ⟨k + 1, _, by omega, by go_num, by rw [HT.out, ← List.append_assoc, HKd.out]; exact H1.out, H2.out⟩
          case measure => simp [intOf]; omega
        · skip
          have HKd : Hid (pTk t = ⟨3, 0, t⟩) := by
            show _ = _
            unfold pTk
            rw [HH.out]
            simp [Lx.letB, hge, hle]
          go_wp2_with (at_builtin; refine wpList_append_lies _ rfl _ _ 38 rfl 0 68 i0 _ 3 32 Tryz.underlying38 hi hz0 hz1 hz2 rfl (by decide) _ (ts.length + k) (cellsOf (ts ++ (texts.take k).map pTk)) rfl (HRow.out.alloc _) ⟨wr.heap.size, 0, none⟩ 1 1 (tkCells ⟨3, 0, t⟩) rfl rfl (three_new _ _ _ _ _) (three_one _) (by omega) (by unfold maxLen; omega) (by omega) (by simp) _ rfl ?_; intro gb cp w8 hown8 hg8 hat8 hlt8; have hg : wr.grownBy w8 (Value.slice a (ts.length + k) cap).ownBlock := (World.grownBy_alloc wr _ _).trans hg8; have c8 : w8.cell? ⟨b, 0, none⟩ = some (.slice a (ts.length + k) cap) := (hg.cell_far ⟨b, 0, none⟩ hlt (fun e => HNe.out e.symm)).trans c0; have f8 : w8.frozen? ⟨b, 0, none⟩ = false := (hg.frozen_far ⟨b, 0, none⟩ hlt (fun e => HNe.out e.symm)).trans f0; have hq8 : b < w8.heap.size := Nat.lt_of_lt_of_le hlt hg.size)
          obtain ⟨h1, h2⟩ := HWr.out.put (t := ⟨3, 0, t⟩) hp1 hg (by
            rcases hat8 with h | h
            · exact Or.inl h
            · exact Or.inr (by simp at h; omega)) (by rw [hlen]; exact hown8)
          rw [hlen] at h1 h2
          have H1 := hid h1
          have H2 := hid (HK.out.trans h2)
          clear h1 h2 hown8 hg8 hat8 hg c8 f8
          go_roundw
          case rel => exact ⟨k + 1, _, by omega, by go_num, by rw [HT.out, ← List.append_assoc, HKd.out]; exact H1.out, H2.out⟩
          case measure => simp [intOf]; omega
      · skip
        have HKd : Hid (pTk t = ⟨3, 0, t⟩) := by
          show _ = _
          unfold pTk
          rw [HH.out]
          simp [Lx.letB, hge]
        go_wp2_with (at_builtin; refine wpList_append_lies _ rfl _ _ 38 rfl 0 68 i0 _ 3 32 Tryz.underlying38 hi hz0 hz1 hz2 rfl (by decide) _ (ts.length + k) (cellsOf (ts ++ (texts.take k).map pTk)) rfl (HRow.out.alloc _) ⟨wr.heap.size, 0, none⟩ 1 1 (tkCells ⟨3, 0, t⟩) rfl rfl (three_new _ _ _ _ _) (three_one _) (by omega) (by unfold maxLen; omega) (by omega) (by simp) _ rfl ?_; intro gb cp w8 hown8 hg8 hat8 hlt8; have hg : wr.grownBy w8 (Value.slice a (ts.length + k) cap).ownBlock := (World.grownBy_alloc wr _ _).trans hg8; have c8 : w8.cell? ⟨b, 0, none⟩ = some (.slice a (ts.length + k) cap) := (hg.cell_far ⟨b, 0, none⟩ hlt (fun e => HNe.out e.symm)).trans c0; have f8 : w8.frozen? ⟨b, 0, none⟩ = false := (hg.frozen_far ⟨b, 0, none⟩ hlt (fun e => HNe.out e.symm)).trans f0; have hq8 : b < w8.heap.size := Nat.lt_of_lt_of_le hlt hg.size)
        obtain ⟨h1, h2⟩ := HWr.out.put (t := ⟨3, 0, t⟩) hp1 hg (by
          rcases hat8 with h | h
          · exact Or.inl h
          · exact Or.inr (by simp at h; omega)) (by rw [hlen]; exact hown8)
        rw [hlen] at h1 h2
        have H1 := hid h1
        have H2 := hid (HK.out.trans h2)
        clear h1 h2 hown8 hg8 hat8 hg c8 f8
        go_roundw
        case rel => exact ⟨k + 1, _, by omega, by go_num, by rw [HT.out, ← List.append_assoc, HKd.out]; exact H1.out, H2.out⟩
        case measure => simp [intOf]; omega
    · have hke : k = texts.length := by omega
      subst hke
      have HF : Hid (Wr b (ts ++ texts.map pTk) (.slice a (ts ++ (texts.take texts.length).map pTk).length cap) wr) := by
        have := HWr.out
        rw [List.take_length] at this ⊢
        exact this
      clear hW hK c0
      go_wp2_with fail
      go_end0
      exact ⟨_, rfl, HF.out, HK.out⟩
end Go.Proofs.YtcekpobmbmnplaaGreatDoor

namespace Go.Proofs.YtcekpobmbmnplaaGreatDoor
open Go.RowKit Go.Shelf
theorem pk {t : ByteArray} (h : Lx.headLet t.data.toList = Lx.nameB t.data.toList) : pTk t = kTk t := by unfold pTk kTk; rw [h]
theorem pn {t : ByteArray} (h : nameOk t = true) : pTk t = wTk t := by
  unfold nameOk Lx.nameB at h
  simp at h
  unfold pTk wTk
  rw [h.2.1.1]; rfl
theorem name_fit {t : ByteArray} (h : nameOk t = true) : 0 < t.size ∧ t.size ≤ maxLen := by
  refine ⟨name_pos h, ?_⟩
  unfold nameOk Lx.nameB at h
  simp at h
  have := h.2.1.2
  have e := Lx.len_toList t
  unfold maxLen
  simp at e
  omega
def WEnd (b : Nat) (ts : List Tk) (v : Value) (W : World) (d : List Tk) (e : Ending) (W' : World) : Prop := ∃ v', e = .returned (.tuple #[]) ∧ Wr b (ts ++ d) v' W' ∧ WK b v v' W W'
theorem put1 (b n : Nat) (t : ByteArray) (ts : List Tk) (v : Value) (W : World) (hn : n = W.heap.size) (h : Wr b ts v W) (hp : 0 < t.size ∧ t.size ≤ maxLen) (hl : ts.length + 1 ≤ 4000000000000) :
    Calls Tryz.prog 59 #[.pointer (some ⟨b, 0, none⟩), .slice (some ⟨n, 0, none⟩) 1 1] (W.alloc (.cells #[.string t] 9)) (WEnd b ts v W [pTk t]) := by
  subst hn
  refine (put_any b W.heap.size 1 [t] ts v _ (h.alloc _) (by simp) (h.own (Nat.le_refl _)) ?_ (by simpa using hp) (by simp) (by simpa using hl)).mono ?_
  · intro i hi
    rw [Lib.cell_of_heap (heap_newP W _)]
    match i, hi with
    | 0, _ => rfl
  · rintro e W' ⟨v', rfl, h1, h2⟩
    exact ⟨v', rfl, h1, (WK.of_below (al1 _ _) b v).trans h2⟩
theorem put2 (b n : Nat) (t u : ByteArray) (ts : List Tk) (v : Value) (W : World) (hn : n = W.heap.size) (h : Wr b ts v W) (hp : 0 < t.size ∧ t.size ≤ maxLen) (hq : 0 < u.size ∧ u.size ≤ maxLen) (hl : ts.length + 2 ≤ 4000000000000) :
    Calls Tryz.prog 59 #[.pointer (some ⟨b, 0, none⟩), .slice (some ⟨n, 0, none⟩) 2 2] (W.alloc (.cells #[.string t, .string u] 9)) (WEnd b ts v W [pTk t, pTk u]) := by
  subst hn
  refine (put_any b W.heap.size 2 [t, u] ts v _ (h.alloc _) (by simp) (h.own (Nat.le_refl _)) ?_ (by intro x hx; simp at hx; rcases hx with rfl | rfl; exact hp; exact hq) (by simp) (by simpa using hl)).mono ?_
  · intro i hi
    rw [Lib.cell_of_heap (heap_newP W _)]
    match i, hi with
    | 0, _ => rfl
    | 1, _ => rfl
  · rintro e W' ⟨v', rfl, h1, h2⟩
    exact ⟨v', rfl, h1, (WK.of_below (al1 _ _) b v).trans h2⟩
theorem put3 (b n : Nat) (t u x : ByteArray) (ts : List Tk) (v : Value) (W : World) (hn : n = W.heap.size) (h : Wr b ts v W) (hp : 0 < t.size ∧ t.size ≤ maxLen) (hq : 0 < u.size ∧ u.size ≤ maxLen) (hr : 0 < x.size ∧ x.size ≤ maxLen) (hl : ts.length + 3 ≤ 4000000000000) :
    Calls Tryz.prog 59 #[.pointer (some ⟨b, 0, none⟩), .slice (some ⟨n, 0, none⟩) 3 3] (W.alloc (.cells #[.string t, .string u, .string x] 9)) (WEnd b ts v W [pTk t, pTk u, pTk x]) := by
  subst hn
  refine (put_any b W.heap.size 3 [t, u, x] ts v _ (h.alloc _) (by simp) (h.own (Nat.le_refl _)) ?_ (by intro y hy; simp at hy; rcases hy with rfl | rfl | rfl; exact hp; exact hq; exact hr) (by simp) (by simpa using hl)).mono ?_
  · intro i hi
    rw [Lib.cell_of_heap (heap_newP W _)]
    match i, hi with
    | 0, _ => rfl
    | 1, _ => rfl
    | 2, _ => rfl
  · rintro e W' ⟨v', rfl, h1, h2⟩
    exact ⟨v', rfl, h1, (WK.of_below (al1 _ _) b v).trans h2⟩
theorem WEnd.of {b : Nat} {ts d d' : List Tk} {v v' : Value} {W W' : World} (h : Wr b (ts ++ d ++ d') v' W') (k : WK b v v' W W') : WEnd b ts v W (d ++ d') (.returned (.tuple #[])) W' := by
  rw [List.append_assoc] at h
  exact ⟨v', rfl, h, k⟩
set_option maxRecDepth 100000 in
set_option maxHeartbeats 1600000 in
theorem ref_w (b : Nat) (m n : ByteArray) (ts : List Tk) (v : Value) (W : World) (h : Wr b ts v W) (hn : nameOk n = true) (hm : m.size = 0 ∨ nameOk m = true) (hl : ts.length + (refT m n).length ≤ 4000000000000) :
    Calls Tryz.prog 138 #[.pointer (some ⟨b, 0, none⟩), .string m, .string n] W (WEnd b ts v W (refT m n)) := by
  have HW := hid h
  have hlt := h.lt
  have hpn := pn hn
  have hnf := name_fit hn
  clear h
  by_cases h0 : m.size = 0
  · have HR : Hid (refT m n = [pTk n]) := by show _ = _; unfold refT; rw [if_pos h0, hpn]
    have hme : m.toList.isEmpty = true := by
      rw [Lib.toList_data, List.isEmpty_iff]
      exact List.eq_nil_of_length_eq_zero (by rw [Lx.len_toList]; exact h0)
    rw [HR.out] at hl ⊢
    go_enter Tryz.func138, Tryz.ntmps138
    go_wp2_with fail
    refine (put1 b _ n ts v W rfl HW.out hnf (by simpa using hl)).mono ?_
    rintro e W1 ⟨v1, rfl, h1, k1⟩
    go_wp2_with fail
    go_end0
    exact ⟨v1, rfl, h1, k1⟩
  · have hmo := hm.resolve_left h0
    have HR : Hid (refT m n = [pTk m, pTk tDot] ++ [pTk n]) := by show _ = _; unfold refT; rw [if_neg h0, hpn, pn hmo]; rfl
    have hmf := name_fit hmo
    have hme : m.toList.isEmpty = false := by
      cases hh : m.toList.isEmpty with
      | false => rfl
      | true =>
        rw [Lib.toList_data, List.isEmpty_iff] at hh
        have := Lx.len_toList m
        rw [hh] at this
        simp at this
        omega
    rw [HR.out] at hl ⊢
    simp at hl
    go_enter Tryz.func138, Tryz.ntmps138
    go_wp2_with fail
    refine (put2 b _ m tDot ts v W rfl HW.out hmf (by decide) (by omega)).mono ?_
    rintro e W1 ⟨v1, rfl, h1, k1⟩
    have H1 := hid h1
    have hz1 := k1.size
    have hlt1 := h1.lt
    clear h1
    go_wp2_with fail
    refine (put1 b _ n _ v1 W1 rfl H1.out hnf (by simp; omega)).mono ?_
    rintro e W2 ⟨v2, rfl, h2, k2⟩
    go_wp2_with fail
    go_end0
    exact WEnd.of h2 (k1.trans k2)
end Go.Proofs.YtcekpobmbmnplaaGreatDoor

namespace Go.Proofs.YtcekpobmbmnplaaGreatDoor
open Go.RowKit Go.Shelf
def WrE (x : Ex) : Prop := ∀ (b : Nat) (ts : List Tk) (v : Value) (W : World) (aa : Option Addr) (cap : Nat), Wr b ts v W → DAt W (Off b v) aa x.args.length (exsD x.args) → x.mod.size ≤ maxLen → x.name.size ≤ maxLen → ts.length + (tE x).length ≤ 4000000000000 →
    Calls Tryz.prog 124 #[.pointer (some ⟨b, 0, none⟩), .agg #[.int .i64 x.op, .int .i64 x.n, .string x.mod, .string x.name, .slice aa x.args.length cap]] W (WEnd b ts v W (tE x))
theorem box5 (W : World) (x0 x1 x2 x3 x4 : Value) (t : TypeId) : (W.alloc (.cells #[x0, x1, x2, x3, x4] t)).cell? ⟨W.heap.size, 0, none⟩ = some x0 ∧ (W.alloc (.cells #[x0, x1, x2, x3, x4] t)).cell? ⟨W.heap.size, 1, none⟩ = some x1 ∧ (W.alloc (.cells #[x0, x1, x2, x3, x4] t)).cell? ⟨W.heap.size, 2, none⟩ = some x2 ∧ (W.alloc (.cells #[x0, x1, x2, x3, x4] t)).cell? ⟨W.heap.size, 3, none⟩ = some x3 ∧ (W.alloc (.cells #[x0, x1, x2, x3, x4] t)).cell? ⟨W.heap.size, 4, none⟩ = some x4 := by
  have h := heap_newP W (.cells #[x0, x1, x2, x3, x4] t)
  exact ⟨by rw [Lib.cell_of_heap h]; rfl, by rw [Lib.cell_of_heap h]; rfl, by rw [Lib.cell_of_heap h]; rfl, by rw [Lib.cell_of_heap h]; rfl, by rw [Lib.cell_of_heap h]; rfl⟩
theorem box6 (W : World) (x0 x1 x2 x3 x4 x5 : Value) (t : TypeId) : (W.alloc (.cells #[x0, x1, x2, x3, x4, x5] t)).cell? ⟨W.heap.size, 0, none⟩ = some x0 ∧ (W.alloc (.cells #[x0, x1, x2, x3, x4, x5] t)).cell? ⟨W.heap.size, 1, none⟩ = some x1 ∧ (W.alloc (.cells #[x0, x1, x2, x3, x4, x5] t)).cell? ⟨W.heap.size, 2, none⟩ = some x2 ∧ (W.alloc (.cells #[x0, x1, x2, x3, x4, x5] t)).cell? ⟨W.heap.size, 3, none⟩ = some x3 ∧ (W.alloc (.cells #[x0, x1, x2, x3, x4, x5] t)).cell? ⟨W.heap.size, 4, none⟩ = some x4 ∧ (W.alloc (.cells #[x0, x1, x2, x3, x4, x5] t)).cell? ⟨W.heap.size, 5, none⟩ = some x5 := by
  have h := heap_newP W (.cells #[x0, x1, x2, x3, x4, x5] t)
  exact ⟨by rw [Lib.cell_of_heap h]; rfl, by rw [Lib.cell_of_heap h]; rfl, by rw [Lib.cell_of_heap h]; rfl, by rw [Lib.cell_of_heap h]; rfl, by rw [Lib.cell_of_heap h]; rfl, by rw [Lib.cell_of_heap h]; rfl⟩
set_option maxRecDepth 100000 in
set_option maxHeartbeats 1600000 in
theorem index_w (x : Ex) (hX : WrE x) (b : Nat) (ts : List Tk) (v0 : Value) (W : World) (aa : Option Addr) (cap : Nat) (h : Wr b ts v0 W) (hA : DAt W (Off b v0) aa x.args.length (exsD x.args)) (hm : x.mod.size ≤ maxLen) (hnm : x.name.size ≤ maxLen) (hl : ts.length + (tE x).length + 2 ≤ 4000000000000) :
    Calls Tryz.prog 139 #[.pointer (some ⟨b, 0, none⟩), .agg #[.int .i64 x.op, .int .i64 x.n, .string x.mod, .string x.name, .slice aa x.args.length cap]] W (WEnd b ts v0 W (kTk tLs :: (tE x ++ [kTk tRs]))) := by
  have HX := hid hX
  have HE : Hid (kTk tLs :: (tE x ++ [kTk tRs]) = [pTk tLs] ++ tE x ++ [pTk tRs]) := by
    show _ = _
    rw [pk (t := tLs) (by decide), pk (t := tRs) (by decide)]; simp
  clear hX
  obtain ⟨W0, hW0⟩ : ∃ W0, W0 = W.alloc (.cells #[.int .i64 x.op, .int .i64 x.n, .string x.mod, .string x.name, .slice aa x.args.length cap] 76) := ⟨_, rfl⟩
  obtain ⟨x0_0, x1_0, x2_0, x3_0, x4_0⟩ := box5 W (.int .i64 x.op) (.int .i64 x.n) (.string x.mod) (.string x.name) (.slice aa x.args.length cap) 76
  rw [← hW0] at x0_0 x1_0 x2_0 x3_0 x4_0
  have H0 : Hid (Wr b (ts ++ []) v0 W0) := by
    rw [hW0, List.append_nil]; exact h.alloc _
  have K0 : Hid (WK b v0 v0 W W0) := by rw [hW0]; exact WK.of_below (al1 _ _) b v0
  have hz0 : W0.heap.size = W.heap.size + 1 := by rw [hW0]; simp
  have hlt0 : b < W0.heap.size := H0.out.lt
  have hf0 : Hid (Off b v0 W.heap.size) := h.own (Nat.le_refl _)
  have hx0 : W.heap.size < W0.heap.size := by omega
  have DA0 : Hid (DAt W0 (Off b v0) aa x.args.length (exsD x.args)) := by rw [hW0]; exact hA.moves (Moves.of_below (al1 _ _) _)
  clear h hA
  generalize hkb : W.heap.size = kb at *
  go_enter Tryz.func139, Tryz.ntmps139
  go_upto_region 1 with fail
  rw [← hW0]
  clear hW0
  go_wp2_with fail
  refine (put1 b _ tLs _ v0 W0 (by omega) H0.out (by decide) (by simp; omega)).mono ?_
  rintro e W1 ⟨v1, rfl, hh, kk⟩
  have H1 : Hid (Wr b (ts ++ ([pTk tLs])) v1 W1) := by
    have := hh
    rw [List.append_assoc] at this
    exact this
  have K1 := hid (K0.out.trans kk)
  have hlt1 := hh.lt
  have hz1 := kk.size
  have DA1 := hid (DA0.out.moves kk.moves)
  have x0_1 := (kk.cell (off := 0) hx0 hf0.out).trans x0_0
  have x1_1 := (kk.cell (off := 1) hx0 hf0.out).trans x1_0
  have x2_1 := (kk.cell (off := 2) hx0 hf0.out).trans x2_0
  have x3_1 := (kk.cell (off := 3) hx0 hf0.out).trans x3_0
  have x4_1 := (kk.cell (off := 4) hx0 hf0.out).trans x4_0
  have hf1 := hid (kk.off hx0 hf0.out)
  have hx1 : kb < W1.heap.size := Nat.lt_of_lt_of_le hx0 kk.size
  clear hh kk
  clear x0_0 x1_0 x2_0 x3_0 x4_0
  go_wp2_with fail
  refine (HX.out b _ v1 W1 aa cap H1.out DA1.out hm hnm (by simp; omega)).mono ?_
  rintro e W2 ⟨v2, rfl, hh, kk⟩
  have H2 : Hid (Wr b (ts ++ ([pTk tLs] ++ tE x)) v2 W2) := by
    have := hh
    rw [List.append_assoc] at this
    exact this
  have K2 := hid (K1.out.trans kk)
  have hlt2 := hh.lt
  have hz2 := kk.size
  have DA2 := hid (DA1.out.moves kk.moves)
  have x0_2 := (kk.cell (off := 0) hx1 hf1.out).trans x0_1
  have x1_2 := (kk.cell (off := 1) hx1 hf1.out).trans x1_1
  have x2_2 := (kk.cell (off := 2) hx1 hf1.out).trans x2_1
  have x3_2 := (kk.cell (off := 3) hx1 hf1.out).trans x3_1
  have x4_2 := (kk.cell (off := 4) hx1 hf1.out).trans x4_1
  have hf2 := hid (kk.off hx1 hf1.out)
  have hx2 : kb < W2.heap.size := Nat.lt_of_lt_of_le hx1 kk.size
  clear hh kk
  clear x0_1 x1_1 x2_1 x3_1 x4_1
  go_wp2_with fail
  refine (put1 b _ tRs _ v2 W2 (by omega) H2.out (by decide) (by simp; omega)).mono ?_
  rintro e W3 ⟨v3, rfl, hh, kk⟩
  have H3 : Hid (Wr b (ts ++ ([pTk tLs] ++ tE x ++ [pTk tRs])) v3 W3) := by
    have := hh
    rw [List.append_assoc] at this
    exact this
  have K3 := hid (K2.out.trans kk)
  have hlt3 := hh.lt
  have hz3 := kk.size
  have DA3 := hid (DA2.out.moves kk.moves)
  have x0_3 := (kk.cell (off := 0) hx2 hf2.out).trans x0_2
  have x1_3 := (kk.cell (off := 1) hx2 hf2.out).trans x1_2
  have x2_3 := (kk.cell (off := 2) hx2 hf2.out).trans x2_2
  have x3_3 := (kk.cell (off := 3) hx2 hf2.out).trans x3_2
  have x4_3 := (kk.cell (off := 4) hx2 hf2.out).trans x4_2
  have hf3 := hid (kk.off hx2 hf2.out)
  have hx3 : kb < W3.heap.size := Nat.lt_of_lt_of_le hx2 kk.size
  clear hh kk
  clear x0_2 x1_2 x2_2 x3_2 x4_2
  go_wp2_with fail
  go_end0
  exact ⟨v3, rfl, by rw [HE.out]; exact H3.out, K3.out⟩
theorem commas_pre : ∀ (xs ys : List (List Tk)), (commas xs).length ≤ (commas (xs ++ ys)).length
  | [], _ => by simp [commas]
  | [x], [] => by simp
  | [x], y :: r => by
    show x.length ≤ (x ++ kTk tCom :: commas (y :: r)).length
    simp
  | x :: y :: r, zs => by
    have := commas_pre (y :: r) zs
    show (x ++ kTk tCom :: commas (y :: r)).length ≤ (x ++ kTk tCom :: commas ((y :: r) ++ zs)).length
    simp only [List.length_append, List.length_cons] at this ⊢
    omega
theorem commas_take (l : List Ex) (k : Nat) : (commas (tEs (l.take k))).length ≤ (commas (tEs l)).length := by
  have := commas_pre (tEs (l.take k)) (tEs (l.drop k))
  rw [← tEs_append, List.take_append_drop] at this
  exact this
theorem commas_next {l : List Ex} {k : Nat} (h : k < l.length) (h0 : 0 < k) : commas (tEs (l.take (k + 1))) = commas (tEs (l.take k)) ++ kTk tCom :: tE l[k] := by
  rw [List.take_succ_eq_append_getElem h, tEs_append, show tEs [l[k]] = [tE l[k]] from by simp [tEs]]
  exact commas_snoc _ _ (fun e => by
    have := tEs_len (l.take k)
    rw [e] at this
    simp at this
    omega)
theorem commas_first {l : List Ex} (h : 0 < l.length) : commas (tEs (l.take 1)) = tE l[0] := by
  cases l with
  | nil => simp at h
  | cons x r => simp [tEs, commas]
set_option maxRecDepth 100000 in
set_option maxHeartbeats 1600000 in
theorem args_w (l : List Ex) (hX : ∀ x ∈ l, WrE x) (b : Nat) (ts : List Tk) (v0 : Value) (W : World) (aa : Option Addr) (cap : Nat) (h : Wr b ts v0 W) (hA : DAt W (Off b v0) aa l.length (exsD l)) (hl : ts.length + (commas (tEs l)).length + 2 ≤ 4000000000000) (h3 : l.length ≤ 100) :
    Calls Tryz.prog 140 #[.pointer (some ⟨b, 0, none⟩), .slice aa l.length cap] W (WEnd b ts v0 W (kTk tLp :: (commas (tEs l) ++ [kTk tRp]))) := by
  have HX := hid hX
  have HE : Hid (kTk tLp :: (commas (tEs l) ++ [kTk tRp]) = [pTk tLp] ++ commas (tEs l) ++ [pTk tRp]) := by
    show _ = _
    rw [pk (t := tLp) (by decide), pk (t := tRp) (by decide)]; simp
  have HCm : Hid (pTk tCom = kTk tCom) := pk (by decide)
  have HA := hid hA
  have HH := hid h
  clear hX hA h
  go_enter Tryz.func140, Tryz.ntmps140
  go_wp2_with fail
  refine (put1 b _ tLp ts v0 W rfl HH.out (by decide) (by omega)).mono ?_
  rintro e W1 ⟨v1, rfl, hh, kk⟩
  have H1 := hid hh
  have K1 := hid kk
  clear hh kk HH
  go_wp2_with fail
  go_loopw [11, 4, 5] (fun i _ _ wr => ∃ (k : Nat) (vr : Value), k ≤ l.length ∧ i = .int .i64 k ∧ Wr b (ts ++ ([pTk tLp] ++ commas (tEs (l.take k)))) vr wr ∧ WK b v0 vr W wr) (fun i _ _ _ => l.length - (intOf i).toNat)
  case atStart => exact ⟨0, v1, Nat.zero_le _, rfl, by simpa [tEs, commas] using H1.out, K1.out⟩
  case round =>
    clear H1 K1
    obtain ⟨k, vr, hk, rfl, hW, hK⟩ := hrel
    have HW := hid hW
    have HK := hid hK
    have hltr := hW.lt
    by_cases hkl : k < l.length
    · obtain ⟨eb, eo, ea, ec, rfl, hx⟩ := (HA.out.moves hK.moves).ex k hkl
      have HXk := hid (HX.out l[k] (List.getElem_mem hkl))
      have HEx := hid hx
      have q0 := hx.c0
      have q1 := hx.c1
      have q2 := hx.c2
      have q3 := hx.c3
      have q4 := hx.c4
      have hle := hx.lt
      have HLn := hid (commas_take l (k + 1))
      obtain ⟨Wb, hWb⟩ : ∃ Wb, Wb = wr.alloc (.cells #[.int .i64 l[k].op, .int .i64 l[k].n, .string l[k].mod, .string l[k].name, .slice ea l[k].args.length ec] 76) := ⟨_, rfl⟩
      obtain ⟨x0, x1, x2, x3, x4⟩ := box5 wr (.int .i64 l[k].op) (.int .i64 l[k].n) (.string l[k].mod) (.string l[k].name) (.slice ea l[k].args.length ec) 76
      rw [← hWb] at x0 x1 x2 x3 x4
      have HWb : Hid (Wr b (ts ++ ([pTk tLp] ++ commas (tEs (l.take k)))) vr Wb) := by rw [hWb]; exact hW.alloc _
      have KWb : Hid (WK b vr vr wr Wb) := by rw [hWb]; exact WK.of_below (al1 _ _) b vr
      have DWb : Hid (DAt Wb (Off b vr) ea l[k].args.length (exsD l[k].args)) := by rw [hWb]; exact hx.args.moves (Moves.of_below (al1 _ _) _)
      have hzb : Wb.heap.size = wr.heap.size + 1 := by rw [hWb]; simp
      have hfb : Hid (Off b vr wr.heap.size) := hW.own (Nat.le_refl _)
      have hltb : b < Wb.heap.size := by omega
      have hxb : wr.heap.size < Wb.heap.size := by omega
      by_cases hk0 : k = 0
      · have hk0' : decide (0 < k) = false := decide_eq_false (by omega)
        have HT : Hid (commas (tEs (l.take (k + 1))) = tE l[k] ∧ commas (tEs (l.take k)) = []) := by
          subst hk0
          exact ⟨commas_first hkl, by simp [tEs, commas]⟩
        have hll : (tE l[k]).length ≤ (commas (tEs l)).length := by have := HLn.out; rw [HT.out.1] at this; exact this
        clear hW hK hx hk0
        rw [HT.out.2] at HWb
        go_upto_region 4 with fail
        rw [← hWb]
        clear hWb
        go_wp2_with fail
        refine (HXk.out b _ vr Wb ea ec HWb.out DWb.out HEx.out.wm HEx.out.wna (by simp; omega)).mono ?_
        rintro e W3 ⟨v3, rfl, hh, kk⟩
        have H3 : Hid (Wr b (ts ++ ([pTk tLp] ++ commas (tEs (l.take (k + 1))))) v3 W3) := by
          show Wr _ _ _ _
          rw [HT.out.1]
          have := hh
          simpa using this
        have K3 := hid ((HK.out.trans KWb.out).trans kk)
        clear hh kk
        go_wp2_with fail
        go_roundw
        case rel => exact ⟨k + 1, v3, by omega, by go_num, H3.out, K3.out⟩
        case measure => simp [intOf]; omega
      · have hk0' : 0 < k := by omega
        have HT : Hid (commas (tEs (l.take (k + 1))) = commas (tEs (l.take k)) ++ kTk tCom :: tE l[k]) := commas_next hkl (by omega)
        have hll : (commas (tEs (l.take k))).length + 1 + (tE l[k]).length ≤ (commas (tEs l)).length := by
          have := HLn.out
          rw [HT.out] at this
          simp only [List.length_append, List.length_cons] at this
          omega
        clear hW hK hx
        go_upto_region 4 with fail
        rw [← hWb]
        clear hWb
        go_wp2_with fail
        refine (put1 b _ tCom _ vr Wb (by omega) HWb.out (by decide) (by simp; omega)).mono ?_
        rintro e W2 ⟨v2, rfl, hh, kk⟩
        have H2 := hid hh
        have K2 := hid (KWb.out.trans kk)
        have y0 := (kk.cell (off := 0) hxb hfb.out).trans x0
        have y1 := (kk.cell (off := 1) hxb hfb.out).trans x1
        have y2 := (kk.cell (off := 2) hxb hfb.out).trans x2
        have y3 := (kk.cell (off := 3) hxb hfb.out).trans x3
        have y4 := (kk.cell (off := 4) hxb hfb.out).trans x4
        have D2 := hid (DWb.out.moves kk.moves)
        have hz2 := kk.size
        have hx2 : wr.heap.size < W2.heap.size := by omega
        have hlt2 := hh.lt
        clear hh kk x0 x1 x2 x3 x4
        go_wp2_with fail
        refine (HXk.out b _ v2 W2 ea ec H2.out D2.out HEx.out.wm HEx.out.wna (by simp; omega)).mono ?_
        rintro e W3 ⟨v3, rfl, hh, kk⟩
        have H3 : Hid (Wr b (ts ++ ([pTk tLp] ++ commas (tEs (l.take (k + 1))))) v3 W3) := by
          show Wr _ _ _ _
          rw [HT.out, ← HCm.out]
          have := hh
          simpa using this
        have K3 := hid ((HK.out.trans K2.out).trans kk)
        clear hh kk
        go_wp2_with fail
        go_roundw
        case rel => exact ⟨k + 1, v3, by omega, by go_num, H3.out, K3.out⟩
        case measure => simp [intOf]; omega
    · have hke : l.take k = l := List.take_of_length_le (by omega)
      have H4 : Hid (Wr b (ts ++ ([pTk tLp] ++ commas (tEs l))) vr wr) := by
        have := HW.out
        rw [hke] at this
        exact this
      clear hW hK HW
      go_wp2_with fail
      refine (put1 b _ tRp _ vr wr (by omega) H4.out (by decide) (by simp; omega)).mono ?_
      rintro e W5 ⟨v5, rfl, hh, kk⟩
      have H5 : Hid (Wr b (ts ++ ([pTk tLp] ++ commas (tEs l) ++ [pTk tRp])) v5 W5) := by
        have := hh
        rw [List.append_assoc] at this
        exact this
      have K5 := hid (HK.out.trans kk)
      clear hh kk
      go_wp2_with fail
      go_end0
      exact ⟨v5, rfl, by rw [HE.out]; exact H5.out, K5.out⟩
end Go.Proofs.YtcekpobmbmnplaaGreatDoor
