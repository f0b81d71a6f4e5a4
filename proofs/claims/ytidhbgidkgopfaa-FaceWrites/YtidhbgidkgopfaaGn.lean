/-
  The reference's FaceFrom.
-/
import Derived.Test.YtidhbgidkgopfaaGm
import Derived.Test.YtidhbgidkgopfaaFf
namespace Go.Proofs.Ytidhbgidkgopfaa
open Go.RowKit Go.Shelf
set_option maxRecDepth 100000

theorem below_grew {B : Nat} {a b c : World} {r : Option Nat} (h : Below B a b) (hg : b.grownBy c r) (hB : B ≤ b.heap.size) (hr : ∀ k, r = some k → B ≤ k) : Below B a c :=
  ⟨hg.os.trans h.os, hg.tape.trans h.tape, hg.output.trans h.output, Nat.le_trans h.size hg.size, fun k hk => (hg.block k (Nat.lt_of_lt_of_le hk hB) (fun e => by have := hr k e.symm; omega)).trans (h.block k hk)⟩
theorem Nose.alloc {w : World} {nb : Nat} {st : List UInt8 × Bool} (h : Nose w nb st) (o : Obj) : Nose (w.alloc o) nb st := h.kept (grown_alloc (grown_refl w none) o) (by simp)
theorem Nose.put {w : World} {nb : Nat} {st : List UInt8 × Bool} (h : Nose w nb st) {a : Addr} {u : Value} (ha : ¬ nb = a.block) : Nose (w.setCell a u) nb st :=
  h.kept (r := some a.block) ⟨rfl, rfl, rfl, by simp, fun k _ hne => Below.heap_setCell w a u k (fun e => hne (by rw [e]))⟩ (fun e => ha (by cases e; rfl))
theorem Bx.set2 {w : World} {b : Nat} {c0 c1 c2 c3 : Value} (h : Bx w b c0 c1 c2 c3) (u : Value) : Bx (w.setCell ⟨b, 2, none⟩ u) b c0 c1 u c3 :=
  ⟨by simpa using h.lt, (World.cell?_setCell_other _ _ _ _ (by simp)).trans h.c0, (World.cell?_setCell_other _ _ _ _ (by simp)).trans h.c1, World.cell?_setCell_same _ _ _ h.c2, (World.cell?_setCell_other _ _ _ _ (by simp)).trans h.c3, by simpa using h.f0, by simpa using h.f1, by simpa using h.f2, by simpa using h.f3⟩
theorem Bf.set1 {w : World} {b : Nat} {c0 c1 : Value} (h : Bf w b c0 c1) (v : Value) : Bf (w.setCell ⟨b, 1, none⟩ v) b c0 v :=
  ⟨by simpa using h.lt, (World.cell?_setCell_other _ _ _ _ (by simp)).trans h.c0, World.cell?_setCell_same _ _ _ h.c1, by simpa using h.f0, by simpa using h.f1⟩
theorem grown_far {w w' : World} {b : Nat} {a : Addr} {u : Value} (h : w.grownBy w' (some b)) (ha : a.block = b) : w.grownBy (w'.setCell a u) (some b) :=
  ⟨h.os, h.tape, h.output, by simpa using h.size, fun k hk hne => (Below.heap_setCell w' a u k (fun e => hne (by rw [e, ha]))).trans (h.block k hk hne)⟩

theorem cells_newN (w : World) (c0 c1 c2 c3 : Value) (t : TypeId) (n : Nat) (hn : n = w.heap.size) : ∀ j u, [c0, c1, c2, c3][j]? = some u → (w.alloc (.cells #[c0, c1, c2, c3] t)).cell? ((⟨n, 0, none⟩ : Addr).add j) = some u := by
  rw [hn]; exact cells_new w c0 c1 c2 c3 t
/- what a round of the loop begins with -/
structure Fst (w0 : World) (nb fb : Nat) (nm : ByteArray) (w : World) (st : List UInt8 × Bool) (acc : List It) (v : Value) : Prop where
  below : Below w0.heap.size w0 w
  nose : Nose w nb st
  face : Bf w fb (.string nm) v
  row : IRow (fb + 1) w v acc
  res : Bf w w0.heap.size (.string ⟨#[]⟩) (.slice none 0 0)
  nf : nb < fb
  lo : w0.heap.size < nb

def FrEnds (w : World) (r : Fc × Bool) (e : Ending) (w' : World) : Prop :=
  Below w.heap.size w w' ∧ ∃ ad cap, e = .returned (.tuple #[.agg #[.string r.1.name, .slice ad r.1.items.length cap], .bool r.2]) ∧ ItemsAt w' ad r.1.items

set_option maxHeartbeats 3200000 in
theorem FaceFrom_any (l : List UInt8) (w : World) (hl : l.length ≤ 32768) :
    Calls Try.prog 11 #[.string (strOf l)] w fun e w' => FrEnds w (frAns l) e w' := by
  obtain ⟨i0, hi, hz0, hz1, hz2⟩ := info_parts info40
  have HTx : Hid (∀ W nb st, Nose W nb st → st.1.length ≤ 1000000000000000 → Calls Try.prog 27 #[.pointer (some ⟨nb, 0, none⟩)] W fun e w' => e = .returned (.string (strOf (nText st).1)) ∧ Nose w' nb (nText st).2 ∧ W.grownBy w' (some nb)) := fun W nb st h h' => noseText_any nb st W h h'
  have HBy : Hid (∀ W nb st, Nose W nb st → st.1.length ≤ 1000000000000000 → Calls Try.prog 28 #[.pointer (some ⟨nb, 0, none⟩)] W fun e w' => e = .returned (.int .i64 (nByte st).1) ∧ Nose w' nb (nByte st).2 ∧ W.grownBy w' (some nb)) := fun W nb st h h' => noseByte_any nb st W h h'
  have HNu : Hid (∀ W nb st, Nose W nb st → st.1.length ≤ 1000000000000000 → Calls Try.prog 29 #[.pointer (some ⟨nb, 0, none⟩)] W fun e w' => e = .returned (.int .i64 (nNum st).1) ∧ Nose w' nb (nNum st).2 ∧ W.grownBy w' (some nb)) := fun W nb st h h' => noseNum_any nb st W h h'
  obtain ⟨W0, hW0⟩ : ∃ W0 : World, W0 = (w.alloc (.cells #[.string ⟨#[]⟩, .slice none 0 0] 24)).alloc (.cells #[.string (strOf l), .bool false] 58) := ⟨_, rfl⟩
  have hN0 : Nose W0 (w.heap.size + 1) (l, false) := by
    rw [hW0]
    constructor <;> simp
  have hR0 : Bf W0 w.heap.size (.string ⟨#[]⟩) (.slice none 0 0) := by rw [hW0]; exact (Bf.new w 24 _ _).alloc _
  have hB0 : Below w.heap.size w W0 := by rw [hW0]; exact ((Below.refl _ _).alloc (Nat.le_refl _) _).alloc (by simp) _
  have hzW : W0.heap.size = w.heap.size + 2 := by rw [hW0]; simp
  have HN0 := hid hN0
  have HR0 := hid hR0
  have HB0 := hid hB0
  have HZW := hid hzW
  have HW0 := hid hW0
  clear hN0 hR0 hB0 hW0 hzW
  go_enter Try.func11, Try.ntmps11
  go_wp2_with fail
  rw [← HW0.out]
  refine (HTx.out _ _ _ HN0.out (by show l.length ≤ _; omega)).mono ?_
  rintro e w1 ⟨rfl, hn1, hg1⟩
  obtain ⟨W1, hW1⟩ : ∃ W1 : World, W1 = w1.alloc (.cells #[.string (strOf (nText (l, false)).1), .slice none 0 0] 24) := ⟨_, rfl⟩
  have hz1' : w.heap.size + 2 ≤ w1.heap.size := by have := hg1.size; have := HZW.out; omega
  have HN1 : Hid (Nose W1 (w.heap.size + 1) (nText (l, false)).2) := by rw [hW1]; exact hn1.alloc _
  have HF1 : Hid (Bf W1 w1.heap.size (.string (strOf (frHead l).1)) (.slice none 0 0)) := by rw [hW1]; exact Bf.new _ _ _ _
  have HR1 : Hid (Bf W1 w.heap.size (.string ⟨#[]⟩) (.slice none 0 0)) := by rw [hW1]; exact (HR0.out.kept hg1 (fun e => by have := Option.some.inj e; omega)).alloc _
  have HB1 : Hid (Below w.heap.size w W1) := by rw [hW1]; exact (below_grew HB0.out hg1 HB0.out.size (fun k e => by have := Option.some.inj e; omega)).alloc (by omega) _
  have HZ1 : Hid (W1.heap.size = w1.heap.size + 1) := by show W1.heap.size = _; rw [hW1]; simp
  have HW1 := hid hW1
  clear hn1 hg1 hW1 HN0 HR0 HB0 HW0
  go_wp2_with fail
  rw [← HW1.out]
  refine (HBy.out _ _ _ HN1.out (by have := (nText_len (l, false)).1; simp only at this; omega)).mono ?_
  rintro e w2 ⟨rfl, hn2, hg2⟩
  have HFs : Hid (Fst w (w.heap.size + 1) w1.heap.size (strOf (frHead l).1) w2 (frCnt l).2 [] (.slice none 0 0)) :=
    ⟨below_grew HB1.out hg2 HB1.out.size (fun k e => by have := Option.some.inj e; omega), hn2, HF1.out.kept hg2 (fun e => by have := Option.some.inj e; omega), IRow.none _ _, HR1.out.kept hg2 (fun e => by have := Option.some.inj e; omega), by omega, by omega⟩
  have HCl : Hid (0 ≤ (frCnt l).1 ∧ (frCnt l).1 ≤ 255) := nByte_lo _
  have HLn : Hid ((frCnt l).2.1.length ≤ l.length) := Nat.le_trans (nByte_len _) (nText_len (l, false)).1
  have HEq : Hid (frGo (frCnt l).1.toNat [] (frCnt l).2 = frAll l) := rfl
  clear hn2 hg2 HN1 HF1 HR1 HB1 HW1 HZ1 HZW
  obtain ⟨m0, hm0⟩ : ∃ m0 : Nat, (nByte (nText (l, false)).2).1 = (m0 : Int) := ⟨(frCnt l).1.toNat, by show (frCnt l).1 = _; have := HCl.out; omega⟩
  rw [hm0]
  have HM : Hid (m0 ≤ 255) := by have := HCl.out.2; show m0 ≤ 255; rw [show (frCnt l).1 = (m0 : Int) from hm0] at this; omega
  have HEq : Hid (frGo m0 [] (frCnt l).2 = frAll l) := by have := HEq.out; rw [show (frCnt l).1 = (m0 : Int) from hm0, Int.toNat_natCast] at this; exact this
  clear hm0 HCl
  go_wp2_with fail
  go_loopw [6, 7] (fun i _ wr => ∃ (m : Nat) (st : List UInt8 × Bool) (acc : List It) (v : Value), i = .int .i64 m ∧ acc.length + m ≤ 255 ∧ st.1.length ≤ l.length ∧ frGo m acc st = frAll l ∧ Fst w (w.heap.size + 1) w1.heap.size (strOf (frHead l).1) wr st acc v) (fun i _ _ => (intOf i).toNat)
  case atStart => exact ⟨m0, (frCnt l).2, [], _, rfl, by have := HM.out; simp; omega, HLn.out, HEq.out, HFs.out⟩
  case round =>
    clear HFs HEq HLn
    obtain ⟨m, st, acc, v, rfl, hm, hst, hgo, hF⟩ := hrel
    obtain ⟨sl, bad⟩ := st
    have HFs := hid hF
    have hNlt := hF.nose.lt
    have n1 := hF.nose.c1
    simp only at n1 hst
    have hRs := hF.res
    obtain ⟨hrl, r0, r1, t0, t1⟩ := hRs
    by_cases hend : m = 0 ∨ bad = true
    · have HAll : Hid (frAll l = (acc, (sl, bad))) := by
        show frAll l = _
        rw [← hgo]
        rcases hend with rfl | rfl
        · rfl
        · cases m with
          | zero => rfl
          | succ m => rfl
      have HFc : Hid (frFace l = ⟨strOf (frHead l).1, acc⟩) := by show frFace l = _; unfold frFace; rw [HAll.out]
      obtain ⟨ad, cap, hv, hA⟩ := hF.row.at
      subst hv
      have HA := hid hA
      obtain ⟨hfl, g0, g1, -, -⟩ := hF.face
      have hfr : ¬ w.heap.size = w1.heap.size := by omega
      have HB := hid hF.below
      have HRes := hid hF.res
      have HRw := hid hF.row
      clear hA hF HFs hgo
      cases bad with
      | true =>
        have HAns : Hid (frAns l = (noF, false)) := if_neg (by unfold frOk; rw [HAll.out]; simp)
        by_cases hmz : m = 0
        · subst hmz
          go_wp2_with fail
          have hX3 := HRes.out.set (.string ⟨#[]⟩) (.slice none 0 0)
          have hB : Below w.heap.size w ((wr.setCell ⟨w.heap.size, 0, none⟩ (.string ⟨#[]⟩)).setCell ⟨w.heap.size, 1, none⟩ (.slice none 0 0)) :=
            (HB.out.setCell (p := ⟨w.heap.size, 0, none⟩) (Nat.le_refl _) _).setCell (p := ⟨w.heap.size, 1, none⟩) (Nat.le_refl _) _
          generalize (wr.setCell ⟨w.heap.size, 0, none⟩ (.string ⟨#[]⟩)).setCell ⟨w.heap.size, 1, none⟩ (.slice none 0 0) = F at *
          refine bodyPost_ret (v := .tuple #[.agg #[.string ⟨#[]⟩, .slice none 0 0], .bool false]) ?_ rfl ?_
          · simp [results, Try.results11, go_sem, hX3.c0, hX3.c1]
          · rw [HAns.out]; exact ⟨hB, none, 0, rfl, Or.inl rfl⟩
        · go_wp2_with fail
          have hX3 := HRes.out.set (.string ⟨#[]⟩) (.slice none 0 0)
          have hB : Below w.heap.size w ((wr.setCell ⟨w.heap.size, 0, none⟩ (.string ⟨#[]⟩)).setCell ⟨w.heap.size, 1, none⟩ (.slice none 0 0)) :=
            (HB.out.setCell (p := ⟨w.heap.size, 0, none⟩) (Nat.le_refl _) _).setCell (p := ⟨w.heap.size, 1, none⟩) (Nat.le_refl _) _
          generalize (wr.setCell ⟨w.heap.size, 0, none⟩ (.string ⟨#[]⟩)).setCell ⟨w.heap.size, 1, none⟩ (.slice none 0 0) = F at *
          refine bodyPost_ret (v := .tuple #[.agg #[.string ⟨#[]⟩, .slice none 0 0], .bool false]) ?_ rfl ?_
          · simp [results, Try.results11, go_sem, hX3.c0, hX3.c1]
          · rw [HAns.out]; exact ⟨hB, none, 0, rfl, Or.inl rfl⟩
      | false =>
        obtain rfl : m = 0 := by simpa using hend
        obtain ⟨z1, z2, z3⟩ := frFace_fit l
        rw [HFc.out] at z1 z2 z3
        simp only at z1 z2 z3
        obtain ⟨c, hc⟩ : ∃ c, chkF ⟨strOf (frHead l).1, acc⟩ = c := ⟨_, rfl⟩
        have HCk : Hid (Calls Try.prog 6 #[.agg #[.string (strOf (frHead l).1), .slice ad acc.length cap]] wr fun e w' => e = .returned (.int .i64 c) ∧ Below wr.heap.size wr w') := by
          rw [← hc]
          exact CheckFace_any ⟨strOf (frHead l).1, acc⟩ ad cap wr HA.out (by show acc.length ≤ _; omega) (by show (strOf (frHead l).1).size ≤ _; unfold maxLen; omega) (fun i hi => by have := z3 i hi; unfold maxLen; omega)
        by_cases hc0 : c = 0
        · subst hc0
          have HFB : Hid (∀ W, ItemsAt W ad acc → Calls Try.prog 7 #[.agg #[.string (strOf (frHead l).1), .slice ad acc.length cap]] W fun e w' => e = .returned (.string (strOf (faceB ⟨strOf (frHead l).1, acc⟩))) ∧ Below W.heap.size W w') := fun W h => FaceBytes_any ⟨strOf (frHead l).1, acc⟩ ad cap W h hc
          by_cases hs : faceB ⟨strOf (frHead l).1, acc⟩ = l
          · have HAns : Hid (frAns l = (⟨strOf (frHead l).1, acc⟩, true)) := by
              show frAns l = _
              unfold frAns
              rw [if_pos (by unfold frOk; rw [HAll.out, HFc.out, hc, hs]; simp), HFc.out]
            rw [hs] at HFB
            clear hs hc HFc HAll z1 z2 z3
            generalize strOf (frHead l).1 = nm at *
            go_wp2_with (first
              | (go_at_call 6; refine HCk.out.mono ?_; rintro e w9 ⟨rfl, hb9⟩; have HRes9 := hid (HRes.out.kept (grown_below none hb9) (by simp)); have HB9 := hid (HB.out.trans (hb9.mono HB.out.size)); have HA9 := hid (HA.out.later hb9); have g09 := (hb9.cell (p := ⟨w1.heap.size, 0, none⟩) hfl).trans g0; have g19 := (hb9.cell (p := ⟨w1.heap.size, 1, none⟩) hfl).trans g1; have HBa := hid hb9; have HL9 : Hid (w1.heap.size < w9.heap.size) := Nat.lt_of_lt_of_le hfl hb9.size; clear hb9)
              | (go_at_call 7; refine (HFB.out _ HA9.out).mono ?_; rintro e w8 ⟨rfl, hb8⟩; have HRes8 := hid (HRes9.out.kept (grown_below none hb8) (by simp)); have hX8 := HRes8.out; obtain ⟨hrl8, r08, r18, t08, t18⟩ := hX8; have HB8 := hid (HB9.out.trans (hb8.mono HB9.out.size)); have HA8 := hid (HA9.out.later hb8); have g08 := (hb8.cell (p := ⟨w1.heap.size, 0, none⟩) HL9.out).trans g09; have g18 := (hb8.cell (p := ⟨w1.heap.size, 1, none⟩) HL9.out).trans g19; have HBb := hid hb8; clear hb8))
            have hX3 := HRes8.out.set (.string nm) (.slice ad acc.length cap)
            have hB : Below w.heap.size w ((w8.setCell ⟨w.heap.size, 0, none⟩ (.string nm)).setCell ⟨w.heap.size, 1, none⟩ (.slice ad acc.length cap)) :=
              (HB8.out.setCell (p := ⟨w.heap.size, 0, none⟩) (Nat.le_refl _) _).setCell (p := ⟨w.heap.size, 1, none⟩) (Nat.le_refl _) _
            have hI : ItemsAt ((w8.setCell ⟨w.heap.size, 0, none⟩ (.string nm)).setCell ⟨w.heap.size, 1, none⟩ (.slice ad acc.length cap)) ad acc := by
              have h1 : IRow (w1.heap.size + 1) ((w8.setCell ⟨w.heap.size, 0, none⟩ (.string nm)).setCell ⟨w.heap.size, 1, none⟩ (.slice ad acc.length cap)) (.slice ad acc.length cap) acc :=
                ownsRow_put (ownsRow_put (ownsRow_later (ownsRow_later HRw.out HBa.out) HBb.out) (by show w.heap.size < _; omega)) (by show w.heap.size < _; omega)
              obtain ⟨ad', cap', e, h2⟩ := h1.at
              cases e
              exact h2
            generalize (w8.setCell ⟨w.heap.size, 0, none⟩ (.string nm)).setCell ⟨w.heap.size, 1, none⟩ (.slice ad acc.length cap) = F at *
            refine bodyPost_ret (v := .tuple #[.agg #[.string nm, .slice ad acc.length cap], .bool true]) ?_ rfl ?_
            · simp [results, Try.results11, go_sem, hX3.c0, hX3.c1]
            · rw [HAns.out]; exact ⟨hB, ad, cap, rfl, hI⟩
          · have HAns : Hid (frAns l = (noF, false)) := if_neg (by unfold frOk; rw [HAll.out, HFc.out]; simp [hs])
            have hs' : ((strOf (faceB ⟨strOf (frHead l).1, acc⟩)).toList == (strOf l).toList) = false := by rw [Lib.toList_data, Lib.toList_data, strOf_list, strOf_list]; simpa using hs
            generalize strOf (faceB ⟨strOf (frHead l).1, acc⟩) = S at *
            clear hs hc HFc HAll z1 z2 z3
            generalize strOf (frHead l).1 = nm at *
            go_wp2_with (first
              | (go_at_call 6; refine HCk.out.mono ?_; rintro e w9 ⟨rfl, hb9⟩; have HRes9 := hid (HRes.out.kept (grown_below none hb9) (by simp)); have HB9 := hid (HB.out.trans (hb9.mono HB.out.size)); have HA9 := hid (HA.out.later hb9); have g09 := (hb9.cell (p := ⟨w1.heap.size, 0, none⟩) hfl).trans g0; have g19 := (hb9.cell (p := ⟨w1.heap.size, 1, none⟩) hfl).trans g1; have HBa := hid hb9; have HL9 : Hid (w1.heap.size < w9.heap.size) := Nat.lt_of_lt_of_le hfl hb9.size; clear hb9)
              | (go_at_call 7; refine (HFB.out _ HA9.out).mono ?_; rintro e w8 ⟨rfl, hb8⟩; have HRes8 := hid (HRes9.out.kept (grown_below none hb8) (by simp)); have hX8 := HRes8.out; obtain ⟨hrl8, r08, r18, t08, t18⟩ := hX8; have HB8 := hid (HB9.out.trans (hb8.mono HB9.out.size)); have HA8 := hid (HA9.out.later hb8); have g08 := (hb8.cell (p := ⟨w1.heap.size, 0, none⟩) HL9.out).trans g09; have g18 := (hb8.cell (p := ⟨w1.heap.size, 1, none⟩) HL9.out).trans g19; have HBb := hid hb8; clear hb8))
            have hX3 := HRes8.out.set (.string ⟨#[]⟩) (.slice none 0 0)
            have hB : Below w.heap.size w ((w8.setCell ⟨w.heap.size, 0, none⟩ (.string ⟨#[]⟩)).setCell ⟨w.heap.size, 1, none⟩ (.slice none 0 0)) :=
              (HB8.out.setCell (p := ⟨w.heap.size, 0, none⟩) (Nat.le_refl _) _).setCell (p := ⟨w.heap.size, 1, none⟩) (Nat.le_refl _) _
            generalize (w8.setCell ⟨w.heap.size, 0, none⟩ (.string ⟨#[]⟩)).setCell ⟨w.heap.size, 1, none⟩ (.slice none 0 0) = F at *
            refine bodyPost_ret (v := .tuple #[.agg #[.string ⟨#[]⟩, .slice none 0 0], .bool false]) ?_ rfl ?_
            · simp [results, Try.results11, go_sem, hX3.c0, hX3.c1]
            · rw [HAns.out]; exact ⟨hB, none, 0, rfl, Or.inl rfl⟩
        · have HAns : Hid (frAns l = (noF, false)) := if_neg (by unfold frOk; rw [HAll.out, HFc.out, hc]; simp [hc0])
          clear hc HFc HAll z1 z2 z3
          generalize strOf (frHead l).1 = nm at *
          go_wp2_with (go_at_call 6; refine HCk.out.mono ?_; rintro e w9 ⟨rfl, hb9⟩; have HRes9 := hid (HRes.out.kept (grown_below none hb9) (by simp)); have hX9 := HRes9.out; obtain ⟨hrl9, r09, r19, t09, t19⟩ := hX9; have HB9 := hid (HB.out.trans (hb9.mono HB.out.size)); clear hb9)
          have hX3 := HRes9.out.set (.string ⟨#[]⟩) (.slice none 0 0)
          have hB : Below w.heap.size w ((w9.setCell ⟨w.heap.size, 0, none⟩ (.string ⟨#[]⟩)).setCell ⟨w.heap.size, 1, none⟩ (.slice none 0 0)) :=
            (HB9.out.setCell (p := ⟨w.heap.size, 0, none⟩) (Nat.le_refl _) _).setCell (p := ⟨w.heap.size, 1, none⟩) (Nat.le_refl _) _
          generalize (w9.setCell ⟨w.heap.size, 0, none⟩ (.string ⟨#[]⟩)).setCell ⟨w.heap.size, 1, none⟩ (.slice none 0 0) = F at *
          refine bodyPost_ret (v := .tuple #[.agg #[.string ⟨#[]⟩, .slice none 0 0], .bool false]) ?_ rfl ?_
          · simp [results, Try.results11, go_sem, hX3.c0, hX3.c1]
          · rw [HAns.out]; exact ⟨hB, none, 0, rfl, Or.inl rfl⟩
    · have hbf : bad = false := by cases bad <;> simp_all
      subst hbf
      have hmz : ¬ m = 0 := fun e => hend (Or.inl e)
      · clear hend hrl r0 r1 t0 t1
        obtain ⟨m, rfl⟩ : ∃ k, m = k + 1 := ⟨m - 1, by omega⟩
        have HGo : Hid (frGo m (acc ++ [(nItem (sl, false)).1]) (nItem (sl, false)).2 = frAll l) := by rw [← hgo]; rfl
        have HIl := hid (nItem_len (sl, false))
        clear hgo hmz hF
        have hmi : (m : Int) + 1 - 1 = m := by omega
        have HIt : Hid (nItem (sl, false) = (⟨(nByte (sl, false)).1, (nNum (nText (nByte (sl, false)).2).2).1, (nNum (nNum (nText (nByte (sl, false)).2).2).2).1, strOf (nText (nByte (sl, false)).2).1⟩, (nNum (nNum (nText (nByte (sl, false)).2).2).2).2)) := rfl
        have L1 := nByte_len (sl, false)
        have L2 := (nText_len (nByte (sl, false)).2).1
        have L3 := nNum_len (nText (nByte (sl, false)).2).2
        have HC1 : Hid (Calls Try.prog 28 #[.pointer (some ⟨w.heap.size + 1, 0, none⟩)] wr fun e w' => e = .returned (.int .i64 (nByte (sl, false)).1) ∧ Nose w' (w.heap.size + 1) (nByte (sl, false)).2 ∧ wr.grownBy w' (some (w.heap.size + 1))) := HBy.out _ _ _ HFs.out.nose (by simp only at L1 ⊢; omega)
        have HC2 : Hid (∀ W, Nose W (w.heap.size + 1) (nByte (sl, false)).2 → Calls Try.prog 27 #[.pointer (some ⟨w.heap.size + 1, 0, none⟩)] W fun e w' => e = .returned (.string (strOf (nText (nByte (sl, false)).2).1)) ∧ Nose w' (w.heap.size + 1) (nText (nByte (sl, false)).2).2 ∧ W.grownBy w' (some (w.heap.size + 1))) := fun W h => HTx.out _ _ _ h (by simp only at L1; omega)
        have HC3 : Hid (∀ W, Nose W (w.heap.size + 1) (nText (nByte (sl, false)).2).2 → Calls Try.prog 29 #[.pointer (some ⟨w.heap.size + 1, 0, none⟩)] W fun e w' => e = .returned (.int .i64 (nNum (nText (nByte (sl, false)).2).2).1) ∧ Nose w' (w.heap.size + 1) (nNum (nText (nByte (sl, false)).2).2).2 ∧ W.grownBy w' (some (w.heap.size + 1))) := fun W h => HNu.out _ _ _ h (by simp only at L1; omega)
        have HC4 : Hid (∀ W, Nose W (w.heap.size + 1) (nNum (nText (nByte (sl, false)).2).2).2 → Calls Try.prog 29 #[.pointer (some ⟨w.heap.size + 1, 0, none⟩)] W fun e w' => e = .returned (.int .i64 (nNum (nNum (nText (nByte (sl, false)).2).2).2).1) ∧ Nose w' (w.heap.size + 1) (nNum (nNum (nText (nByte (sl, false)).2).2).2).2 ∧ W.grownBy w' (some (w.heap.size + 1))) := fun W h => HNu.out _ _ _ h (by simp only at L1; omega)
        rw [HIt.out] at HIl HGo
        simp only at HIl HGo
        clear HIt L1 L2 L3
        generalize nNum (nNum (nText (nByte (sl, false)).2).2).2 = q4 at *
        generalize nNum (nText (nByte (sl, false)).2).2 = q3 at *
        generalize nText (nByte (sl, false)).2 = q2 at *
        generalize nByte (sl, false) = q1 at *
        go_wp2_with fail
        refine HC1.out.mono ?_
        rintro e w3 ⟨rfl, hn3, hg3⟩
        have hx3 := Bx.new w3 40 (.int .i64 q1.1) (.int .i64 0) (.int .i64 0) (.string ⟨#[]⟩)
        have HN3 := hid (hn3.alloc (.cells #[.int .i64 q1.1, .int .i64 0, .int .i64 0, .string ⟨#[]⟩] 40))
        have HG3 := hid (grown_alloc hg3 (.cells #[.int .i64 q1.1, .int .i64 0, .int .i64 0, .string ⟨#[]⟩] 40))
        have hz3 := hg3.size
        have HX3 := hid hx3
        clear hn3 hg3 hx3 n1
        go_wp2_with fail
        generalize w3.alloc (.cells #[.int .i64 q1.1, .int .i64 0, .int .i64 0, .string ⟨#[]⟩] 40) = W3 at *
        refine (HC2.out _ HN3.out).mono ?_
        rintro e w4 ⟨rfl, hn4, hg4⟩
        have hx4 := HX3.out.kept hg4 (fun e => by have := Option.some.inj e; omega)
        have HX4 := hid hx4
        obtain ⟨-, -, -, -, a3, -, -, -, b3⟩ := hx4
        have HN4 := hid hn4
        have HG4 := hid (grown_trans HG3.out hg4)
        clear hn4 hg4 HN3 HG3 HX3
        go_wp2_with fail
        replace HX4 := hid (HX4.out.set3 (.string (strOf q2.1)))
        replace HN4 := hid (HN4.out.put (a := ⟨w3.heap.size, 3, none⟩) (u := .string (strOf q2.1)) (by show ¬ _ = w3.heap.size; omega))
        replace HG4 := hid (grown_put (a := ⟨w3.heap.size, 3, none⟩) (u := .string (strOf q2.1)) HG4.out hz3)
        clear a3 b3
        generalize w4.setCell ⟨w3.heap.size, 3, none⟩ (.string (strOf q2.1)) = W4 at *
        refine (HC3.out _ HN4.out).mono ?_
        rintro e w5 ⟨rfl, hn5, hg5⟩
        have hx5 := HX4.out.kept hg5 (fun e => by have := Option.some.inj e; omega)
        have HX5 := hid hx5
        obtain ⟨-, -, a1, -, -, -, b1, -, -⟩ := hx5
        have HN5 := hid hn5
        have HG5 := hid (grown_trans HG4.out hg5)
        clear hn5 hg5 HN4 HG4 HX4
        go_wp2_with fail
        replace HX5 := hid (HX5.out.set1 (.int .i64 q3.1))
        replace HN5 := hid (HN5.out.put (a := ⟨w3.heap.size, 1, none⟩) (u := .int .i64 q3.1) (by show ¬ _ = w3.heap.size; omega))
        replace HG5 := hid (grown_put (a := ⟨w3.heap.size, 1, none⟩) (u := .int .i64 q3.1) HG5.out hz3)
        clear a1 b1
        generalize w5.setCell ⟨w3.heap.size, 1, none⟩ (.int .i64 q3.1) = W5 at *
        refine (HC4.out _ HN5.out).mono ?_
        rintro e w6 ⟨rfl, hn6, hg6⟩
        have hx6 := HX5.out.kept hg6 (fun e => by have := Option.some.inj e; omega)
        have HX6 := hid hx6
        obtain ⟨hxlt, a0, a1, a2, a3, -, -, b2, -⟩ := hx6
        have HN6 := hid hn6
        have HG6 := hid (grown_trans HG5.out hg6)
        have hface := HFs.out.face.kept HG6.out (fun e => by have := Option.some.inj e; have := HFs.out.nf; omega)
        obtain ⟨ad, cap, hv⟩ := HFs.out.row.slice
        subst hv
        have HFa := hid hface
        obtain ⟨hflt, -, e1, -, e2⟩ := hface
        have hfx : w1.heap.size < w3.heap.size := Nat.lt_of_lt_of_le HFs.out.face.lt hz3
        have HRow : Hid (IRow (w1.heap.size + 1) (w6.setCell ⟨w3.heap.size, 2, none⟩ (.int .i64 q4.1)) (.slice ad acc.length cap) acc) :=
          ownsRow_kept HFs.out.row (grown_put HG6.out hz3) (by have := HFs.out.nf; omega)
        have hfb : w1.heap.size + 1 ≤ w6.heap.size := by omega
        clear hn6 hg6 HN5 HG5 HX5
        go_wp2_with (at_builtin; refine wpList_append_lies _ rfl _ _ _ rfl (w1.heap.size + 1) 40 i0 _ 4 40 Try.underlying22 hi hz0 hz1 hz2 rfl (by omega) _ acc.length (cellsL acc) rfl (ownsRow_later HRow.out ((Below.refl _ _).alloc (Nat.le_refl _) _)) ⟨_, 0, none⟩ 1 1 (cells1 ⟨q1.1, q3.1, q4.1, strOf q2.1⟩) rfl rfl (cells_newN _ _ _ _ _ _ _ (by simp)) (by simp [cells1]; exact ⟨rfl, rfl, rfl, rfl⟩) (by omega) (by unfold maxLen; omega) (by omega) (by simp; omega) _ rfl ?_; intro q2' cap2 w7 hown2 hg7 hat hlt2; have HO2 := hid hown2; have HG7 := hid hg7; have hf7 := ((HFa.out.far (a := ⟨w3.heap.size, 2, none⟩) (u := .int .i64 q4.1) (by show ¬ _ = w3.heap.size; omega)).alloc _).kept hg7 (fun e => by have := (HRow.out.lt _ e.symm).1; omega); have HF7 := hid hf7; obtain ⟨hlt7, -, p1, -, p2⟩ := hf7; clear hown2 hg7 hat)
        go_roundw
        case rel =>
          refine ⟨m, q4.2, acc ++ [⟨q1.1, q3.1, q4.1, strOf q2.1⟩], .slice (some ⟨q2', 0, none⟩) (acc.length + 1) cap2, rfl, by rw [len_snoc]; omega, Nat.le_trans HIl.out hst, HGo.out, ?_⟩
          have hrlt := fun k e => (HRow.out.lt k e).1
          have HGa := grown_alloc (grown_put (a := ⟨w3.heap.size, 2, none⟩) (u := .int .i64 q4.1) HG6.out hz3) (.cells #[.int .i64 q1.1, .int .i64 q3.1, .int .i64 q4.1, .string (strOf q2.1)] 40)
          have hB : Below w.heap.size w w7 := below_grew (below_grew HFs.out.below HGa HFs.out.below.size (fun k e => by have := Option.some.inj e; omega)) HG7.out (Nat.le_trans HFs.out.below.size HGa.size) (fun k e => by have := hrlt k e; omega)
          have hRes : Bf w7 w.heap.size (.string ⟨#[]⟩) (.slice none 0 0) := (HFs.out.res.kept HGa (fun e => by have := Option.some.inj e; omega)).kept HG7.out (fun e => by have := hrlt _ e.symm; omega)
          have hNo : Nose w7 (w.heap.size + 1) q4.2 := ((HN6.out.put (a := ⟨w3.heap.size, 2, none⟩) (u := .int .i64 q4.1) (by show ¬ _ = w3.heap.size; omega)).alloc _).kept HG7.out (fun e => by have := hrlt _ e.symm; omega)
          refine ⟨hB.setCell (by show w.heap.size ≤ w1.heap.size; omega) _, hNo.put (by show ¬ _ = w1.heap.size; omega), HF7.out.set1 _, ?_, hRes.far (by show ¬ _ = w1.heap.size; omega), HFs.out.nf, HFs.out.lo⟩
          have h9 := HO2.out
          unfold IRow
          rw [← cellsL_snoc, len_snoc]
          exact ownsRow_put h9 (by show w1.heap.size < _; omega)
        case measure => simp [intOf]

end Go.Proofs.Ytidhbgidkgopfaa
