/-
  What Parse answers.
-/
import Derived.Test.YtcekpobmbmnplaaGreatDoorQb
import Derived.Test.YtcekpobmbmnplaaGreatDoorPo
import Derived.Test.YtcekpobmbmnplaaGreatDoorCe
import Derived.Test.YtcekpobmbmnplaaGreatDoorPk
namespace Go.Proofs.YtcekpobmbmnplaaGreatDoor
open Go.RowKit Go.Shelf

theorem lexT_good (s : ByteArray) : Good (lexT s) := by
  unfold lexT
  split
  · exact ⟨⟨rfl, rfl⟩, by simp⟩
  · rename_i hs
    cases h : lexAt s 0 with
    | none => exact ⟨⟨rfl, rfl⟩, by simp⟩
    | some ts =>
      rw [lexAt_zero] at h
      have := lexL_right _ _ ts rfl h
      rw [Lx.len_toList] at this
      exact ⟨this.1, by show ts.length ≤ 4096; omega⟩
theorem pAll_sound {ts : List Tk} {m : Mo} (h : pAll ts = some m) (hg : Good ts) : ts = tM m ∧ Fine m := by
  unfold pAll at h
  split at h
  · rename_i m' hm
    cases h
    have := pModule_sound hm hg
    simpa using this
  · cases h
/- what lies there as the reader made it, in range, lies there as the checker wants it -/
theorem mo_at {A : Nat → Prop} {m : Mo} {w : World} {v : Value} (h : MoRep A m w v) (hf : Fine m) : ∃ a1 c1 a2 c2 a3 c3 a4 c4, MoAt w Tt m v a1 c1 a2 c2 a3 c3 a4 c4 := by
  obtain ⟨a1, c1, a2, c2, a3, c3, a4, c4, rfl, h0, h1, h2, h3, h4⟩ := h
  have hm : Moves w A w Tt := ⟨Nat.le_refl _, fun _ _ _ => ⟨trivial, rfl⟩⟩
  have l2 : (desD m.decls).length = 4 * m.decls.length := by
    have : ∀ l : List De, (desD l).length = 4 * l.length := by
      intro l
      induction l with
      | nil => rfl
      | cons x r ih =>
        show (x.ds ++ desD r).length = _
        rw [List.length_append, ih]
        simp [De.ds]; omega
    exact this _
  have l3 : (prsD m.procs).length = 5 * m.procs.length := by
    have : ∀ l : List Pr, (prsD l).length = 5 * l.length := by
      intro l
      induction l with
      | nil => rfl
      | cons x r ih =>
        show (x.ds ++ prsD r).length = _
        rw [List.length_append, ih]
        simp [Pr.ds]; omega
    exact this _
  have k1 := hf.uses
  have k2 := hf.decls
  have k3 := hf.procs
  have k4 := hf.main
  exact ⟨a1, c1, a2, c2, a3, c3, a4, c4, rfl, h0, (h1.moves hm).toD (by simp [strsD]) (by simp [strsD]; omega) (strs_fine _), (h2.moves hm).toD (by rw [l2]; omega) (by rw [l2]; omega) hf.fd, (h3.moves hm).toD (by rw [l3]; omega) (by rw [l3]; omega) hf.fp, (h4.moves hm).toD (by rw [stsD_len]; omega) (by rw [stsD_len]; omega) hf.fm⟩
theorem below_set5 {B b : Nat} {a w : World} (h : Below B a w) (hb : B ≤ b) (v0 v1 v2 v3 v4 : Value) : Below B a (set5 w b v0 v1 v2 v3 v4) :=
  ((((h.setCell (p := ⟨b, 0, none⟩) hb _).setCell (p := ⟨b, 1, none⟩) hb _).setCell (p := ⟨b, 2, none⟩) hb _).setCell (p := ⟨b, 3, none⟩) hb _).setCell (p := ⟨b, 4, none⟩) hb _
theorem MoRep.moves {A A' : Nat → Prop} {m : Mo} {w w' : World} {v : Value} (h : MoRep A m w v) (hm : Moves w A w' A') : MoRep A' m w' v := by
  obtain ⟨a1, c1, a2, c2, a3, c3, a4, c4, rfl, h0, h1, h2, h3, h4⟩ := h
  exact ⟨a1, c1, a2, c2, a3, c3, a4, c4, rfl, h0, h1.moves hm, h2.moves hm, h3.moves hm, h4.moves hm⟩
def parsR (s : ByteArray) : Option Mo := if lexE s = 0 then (match pAll (lexT s) with | some m => if m.err = 0 then some m else none | none => none) else none
def parsE (s : ByteArray) : Int := if lexE s = 0 then (match parsR s with | some _ => 0 | none => 1) else lexE s
def parseEnd (s : ByteArray) (e : Ending) (w : World) : Prop :=
  (parsR s = none ∧ parsE s ≠ 0 ∧ e = .returned (.tuple #[moNone, .int .i64 (parsE s)])) ∨
  ∃ m v a1 c1 a2 c2 a3 c3 a4 c4, parsR s = some m ∧ parsE s = 0 ∧ e = .returned (.tuple #[v, .int .i64 0]) ∧ MoAt w Tt m v a1 c1 a2 c2 a3 c3 a4 c4
set_option maxRecDepth 100000 in
set_option maxHeartbeats 1600000 in
theorem Parse_any (s : ByteArray) (w : World) (hs : s.size ≤ maxLen) :
    Calls Tryz.prog 9 #[.string s] w fun e w' => parseEnd s e w' ∧ Below w.heap.size w w' := by
  have HG := hid (lexT_good s)
  go_enter Tryz.func9, Tryz.ntmps9
  go_wp2_with fail
  refine (Lex_any s _ hs).mono ?_
  rintro e w1 ⟨a, cap, rfl, hT, hb1⟩
  have HT := hid hT
  have hz1 := hb1.size
  simp at hz1
  have HB1 : Hid (w1.heap[w.heap.size]? = some moZero) := (hb1.block w.heap.size (by simp)).trans (heap_newP _ _)
  have HBl : Hid (Below w.heap.size w w1) := thenB (al1 _ _) hb1
  clear hT hb1
  obtain ⟨h0, h1, h2, h3, h4, h5⟩ := cellsOf5 HB1.out
  have hlt1 : w.heap.size < w1.heap.size := by omega
  by_cases he : lexE s = 0
  · have HE := hid he
    rw [he]
    clear he
    generalize hts : lexT s = ts at *
    go_wp2_with fail
    refine (parsed_any ts a cap w1 HT.out HG.out.2).mono ?_
    rintro e w2 ⟨hb2, ⟨hn, rfl⟩ | ⟨m, v, hn, rfl, hM⟩⟩
    · have HN : Hid (parsR s = none ∧ parsE s = 1) := by
        have h : parsR s = none := by unfold parsR; rw [if_pos HE.out, hts, hn]
        refine ⟨h, ?_⟩
        unfold parsE; rw [if_pos HE.out, h]
      have HBl2 := hid (thenB HBl.out hb2)
      have hz2 := hb2.size
      have HB2 : Hid (w2.heap[w.heap.size]? = some moZero) := (hb2.block w.heap.size hlt1).trans HB1.out
      have HB3 := hid (heap_old (o := moZero) HB2.out)
      clear h0 h1 h2 h3 h4 h5 hb2
      obtain ⟨h0, h1, h2, h3, h4, h5⟩ := cellsOf5 HB2.out
      have hlt2 : w.heap.size < w2.heap.size := by omega
      have hBx := below_set5 HBl2.out (Nat.le_refl _) (.string ⟨#[]⟩) (.slice none 0 0) (.slice none 0 0) (.slice none 0 0) (.slice none 0 0)
      have HBf := hid (hBx.alloc hBx.size moZero)
      clear hBx
      go_wp2_with fail
      refine bodyPost_ret (v := .tuple #[moNone, .int .i64 1]) (by simp [results, Tryz.results9, go_sem, h0, h1, h2, h3, h4, hlt2]) rfl ⟨Or.inl ⟨HN.out.1, by rw [HN.out.2]; decide, by rw [HN.out.2]⟩, HBf.out⟩
    · obtain ⟨e1, hF⟩ := pAll_sound hn HG.out
      have HF := hid hF
      have HM := hid hM
      obtain ⟨a1, c1, a2, c2, a3, c3, a4, c4, rfl, _⟩ := hM
      have HN := hid hn
      have HBl2 := hid (thenB HBl.out hb2)
      have hz2 := hb2.size
      have HB2 : Hid (w2.heap[w.heap.size]? = some moZero) := (hb2.block w.heap.size hlt1).trans HB1.out
      have hCk : ∀ W, Below w2.heap.size w2 W → Calls Tryz.prog 7 #[.agg #[.string m.name, .slice a1 m.uses.length c1, .slice a2 m.decls.length c2, .slice a3 m.procs.length c3, .slice a4 m.main.length c4]] W fun e w' => e = .returned (.int .i64 m.err) ∧ Below W.heap.size W w' := fun W hW => by
        obtain ⟨b1, d1, b2, d2, b3, d3, b4, d4, hA⟩ := mo_at (HM.out.moves (Moves.of_below hW _)) HF.out
        exact tCheck_any m _ _ _ _ _ _ _ _ _ W hA
      have HCk := hid hCk
      clear h0 h1 h2 h3 h4 h5 hb2 e1 hF hn hCk
      have hlt2 : w.heap.size < w2.heap.size := by omega
      go_wp2_with fail
      refine (HCk.out _ (al1 _ _)).mono ?_
      rintro e w3 ⟨rfl, hb3⟩
      have hz3 := hb3.size
      simp at hz3
      have HB3 : Hid (w3.heap[w.heap.size]? = some moZero) := (hb3.block w.heap.size (by simp; omega)).trans (heap_old HB2.out)
      have HV3 : Hid (w3.heap[w2.heap.size]? = some (.cells #[.string m.name, .slice a1 m.uses.length c1, .slice a2 m.decls.length c2, .slice a3 m.procs.length c3, .slice a4 m.main.length c4] 27 (0, 0))) := (hb3.block w2.heap.size (by simp)).trans (heap_newP _ _)
      have HBl3 := hid (thenB HBl2.out (thenB (al1 _ _) hb3))
      have HM3 : Hid (MoRep (w1.heap.size ≤ ·) m w3 (.agg #[.string m.name, .slice a1 m.uses.length c1, .slice a2 m.decls.length c2, .slice a3 m.procs.length c3, .slice a4 m.main.length c4])) := HM.out.moves ((Moves.of_below (al1 _ _) _).trans (Moves.of_below hb3 _))
      obtain ⟨h0, h1, h2, h3, h4, h5⟩ := cellsOf5 HB3.out
      obtain ⟨g0, g1, g2, g3, g4, g5⟩ := cellsOf5 HV3.out
      have hlt3 : w.heap.size < w3.heap.size := by omega
      have hlt4 : w2.heap.size < w3.heap.size := by omega
      clear hb3 HCk HM HB2
      by_cases hr : m.err = 0
      · have HP : Hid (parsR s = some m ∧ parsE s = 0) := by
          have h : parsR s = some m := by unfold parsR; rw [if_pos HE.out, hts, HN.out]; simp [hr]
          refine ⟨h, ?_⟩
          unfold parsE; rw [if_pos HE.out, h]
        have HBf := hid (below_set5 HBl3.out (Nat.le_refl _) (.string m.name) (.slice a1 m.uses.length c1) (.slice a2 m.decls.length c2) (.slice a3 m.procs.length c3) (.slice a4 m.main.length c4))
        have HMf := hid (mo_at (HM3.out.moves (((Moves.refl w3 (w1.heap.size ≤ ·)).set5 (b := w.heap.size) (fun k _ hk => by omega) (.string m.name) (.slice a1 m.uses.length c1) (.slice a2 m.decls.length c2) (.slice a3 m.procs.length c3) (.slice a4 m.main.length c4)))) HF.out)
        have hrb : (m.err == 0) = true := by simp [hr]
        rw [hr]
        go_wp2_with fail
        refine bodyPost_ret (v := .tuple #[.agg #[.string m.name, .slice a1 m.uses.length c1, .slice a2 m.decls.length c2, .slice a3 m.procs.length c3, .slice a4 m.main.length c4], .int .i64 0]) (by simp [results, Tryz.results9, go_sem, h0, h1, h2, h3, h4]) rfl ⟨Or.inr ?_, HBf.out⟩
        obtain ⟨b1, d1, b2, d2, b3, d3, b4, d4, hA⟩ := HMf.out
        exact ⟨m, _, b1, d1, b2, d2, b3, d3, b4, d4, HP.out.1, HP.out.2, rfl, hA⟩
      · have HN' : Hid (parsR s = none ∧ parsE s = 1) := by
          have h : parsR s = none := by unfold parsR; rw [if_pos HE.out, hts, HN.out]; simp [hr]
          refine ⟨h, ?_⟩
          unfold parsE; rw [if_pos HE.out, h]
        have HBf := hid (below_set5 HBl3.out (Nat.le_refl _) (.string ⟨#[]⟩) (.slice none 0 0) (.slice none 0 0) (.slice none 0 0) (.slice none 0 0))
        have hrb : (m.err == 0) = false := by simp [hr]
        have hrb2 : (m.err != 0) = true := by simp [hr]
        generalize m.err = er at *
        go_wp2_with fail
        refine bodyPost_ret (v := .tuple #[moNone, .int .i64 1]) (by simp [results, Tryz.results9, go_sem, h0, h1, h2, h3, h4]) rfl ⟨Or.inl ⟨HN'.out.1, by rw [HN'.out.2]; decide, by rw [HN'.out.2]⟩, HBf.out⟩
  · have HN : Hid (parsR s = none ∧ parsE s = lexE s) := by
      refine ⟨by unfold parsR; rw [if_neg he], ?_⟩
      unfold parsE; rw [if_neg he]
    have HBf := hid (below_set5 HBl.out (Nat.le_refl _) (.string ⟨#[]⟩) (.slice none 0 0) (.slice none 0 0) (.slice none 0 0) (.slice none 0 0))
    have hrb : (lexE s == 0) = false := by simp [he]
    go_wp2_with fail
    refine bodyPost_ret (v := .tuple #[moNone, .int .i64 (lexE s)]) (by simp [results, Tryz.results9, go_sem, h0, h1, h2, h3, h4]) rfl ⟨Or.inl ⟨HN.out.1, by rw [HN.out.2]; exact he, by rw [HN.out.2]⟩, HBf.out⟩
end Go.Proofs.YtcekpobmbmnplaaGreatDoor
