/-
  The program's Read.
-/
import Derived.Test.YtidhbgidkgopfaaFz
namespace Go.Proofs.Ytidhbgidkgopfaa
open Go.RowKit Go.Shelf
set_option maxRecDepth 100000

def noF : Fc := ⟨⟨#[]⟩, []⟩
/- what Read answers -/
def rdF (l : List UInt8) : Fc × Int := if 32768 < l.length then (noF, 2) else match wOk l with
  | none => (noF, 1)
  | some f => if chkF f = 0 then (f, 0) else (noF, 1)
def REnds (w : World) (r : Fc × Int) (e : Ending) (w' : World) : Prop :=
  Below w.heap.size w w' ∧ ∃ v, e = .returned (.tuple #[.agg #[.string r.1.name, v], .int .i64 r.2]) ∧ IRow w.heap.size w' v r.1.items
theorem IRow.none (B : Nat) (w : World) : IRow B w (.slice none 0 0) [] := World.ownsRow_nil _ _ _ _

set_option maxHeartbeats 1600000 in
theorem Read_many (l : List UInt8) (w : World) (hl : 32768 < l.length) (hm : l.length ≤ 1000000000000000) :
    Calls Try.prog 8 #[.string (strOf l)] w fun e w' => REnds w (noF, 2) e w' := by
  have hz := strOf_size l
  go_enter Try.func8, Try.ntmps8
  go_wp2_with fail
  refine bodyPost_ret (v := .tuple #[.agg #[.string ⟨#[]⟩, .slice none 0 0], .int .i64 2]) ?_ rfl ⟨?_, _, rfl, IRow.none _ _⟩
  · simp [results, Try.results8, go_sem]
  · exact (Below.refl _ _).alloc (Nat.le_refl _) _

theorem WEnd.of_none {w w' : World} {r : Option Fc} {e : Ending} (h : WEnd w r e w') (hr : r = none) : e = .returned (.tuple #[.agg #[.string ⟨#[]⟩, .slice none 0 0], .bool false]) ∧ Below w.heap.size w w' := by
  obtain ⟨hg, ⟨_, he⟩ | ⟨f, v, hr', _⟩⟩ := h
  · exact ⟨he, hg⟩
  · rw [hr] at hr'; cases hr'
theorem WEnd.of_some {w w' : World} {r : Option Fc} {e : Ending} {f : Fc} (h : WEnd w r e w') (hr : r = some f) : ∃ ad cap, e = .returned (.tuple #[.agg #[.string f.name, .slice ad f.items.length cap], .bool true]) ∧ Below w.heap.size w w' ∧ IRow w.heap.size w' (.slice ad f.items.length cap) f.items ∧ ItemsAt w' ad f.items := by
  obtain ⟨hg, ⟨hr', _⟩ | ⟨f', v, hr', he, h1⟩⟩ := h
  · rw [hr] at hr'; cases hr'
  · rw [hr] at hr'; cases hr'
    obtain ⟨ad, cap, rfl, h2⟩ := h1.at
    exact ⟨ad, cap, he, hg, h1, h2⟩

set_option maxHeartbeats 1600000 in
theorem Read_none (hcl : CloneOk) (l : List UInt8) (w : World) (hl : l.length ≤ 32768) (hp : wOk l = none) :
    Calls Try.prog 8 #[.string (strOf l)] w fun e w' => REnds w (noF, 1) e w' := by
  have hz := strOf_size l
  have HC : Hid (∀ W, Calls Try.prog 20 #[.string (strOf l), .func (.func 21) #[] #[]] W fun e w' => e = .returned (.tuple #[.agg #[.string ⟨#[]⟩, .slice none 0 0], .bool false]) ∧ Below W.heap.size W w') := fun W => (Whole_any hcl l W (by omega)).mono fun e w' h => h.of_none hp
  clear hp
  go_enter Try.func8, Try.ntmps8
  go_wp2_with (go_at_call 20; refine (HC.out _).mono ?_; rintro e w1 ⟨rfl, hb⟩; have HB := hid hb; have hX := (Bf.new w 24 (.string ⟨#[]⟩) (.slice none 0 0)).kept (grown_below none hb) (by simp); have HX := hid hX; obtain ⟨xl, xc0, xc1, xf0, xf1⟩ := hX; clear hb)
  have hX2 := (HX.out.set (.string ⟨#[]⟩) (.slice none 0 0)).alloc (.cells #[.string ⟨#[]⟩, .slice none 0 0] 24)
  have hB : Below w.heap.size w (((w1.setCell ⟨w.heap.size, 0, none⟩ (.string ⟨#[]⟩)).setCell ⟨w.heap.size, 1, none⟩ (.slice none 0 0)).alloc (.cells #[.string ⟨#[]⟩, .slice none 0 0] 24)) :=
    (((((Below.refl _ _).alloc (Nat.le_refl _) _).trans (HB.out.mono (by simp))).setCell (p := ⟨w.heap.size, 0, none⟩) (Nat.le_refl _) _).setCell (p := ⟨w.heap.size, 1, none⟩) (Nat.le_refl _) _).alloc (by simp; omega) _
  generalize ((w1.setCell ⟨w.heap.size, 0, none⟩ (.string ⟨#[]⟩)).setCell ⟨w.heap.size, 1, none⟩ (.slice none 0 0)).alloc (.cells #[.string ⟨#[]⟩, .slice none 0 0] 24) = F at *
  refine bodyPost_ret (v := .tuple #[.agg #[.string ⟨#[]⟩, .slice none 0 0], .int .i64 1]) ?_ rfl ⟨hB, _, rfl, IRow.none _ _⟩
  simp [results, Try.results8, go_sem, hX2.c0, hX2.c1]

set_option maxHeartbeats 1600000 in
theorem Read_some (hcl : CloneOk) (l : List UInt8) (f : Fc) (w : World) (hl : l.length ≤ 32768) (hp : wOk l = some f) (hk : chkF f = 0) :
    Calls Try.prog 8 #[.string (strOf l)] w fun e w' => REnds w (f, 0) e w' := by
  have hz := strOf_size l
  have HC : Hid (∀ W, Calls Try.prog 20 #[.string (strOf l), .func (.func 21) #[] #[]] W fun e w' => ∃ ad cap, e = .returned (.tuple #[.agg #[.string f.name, .slice ad f.items.length cap], .bool true]) ∧ Below W.heap.size W w' ∧ IRow W.heap.size w' (.slice ad f.items.length cap) f.items ∧ ItemsAt w' ad f.items) := fun W => (Whole_any hcl l W (by omega)).mono fun e w' h => h.of_some hp
  obtain ⟨z1, z2, z3⟩ := wOk_fit hp
  have HS : Hid (∀ W a cap, ItemsAt W a f.items → Calls Try.prog 12 #[.agg #[.string f.name, .slice a f.items.length cap]] W fun e w' => e = .returned (.int .i64 0) ∧ Below W.heap.size W w') := fun W a cap hT => by
    have := scopeCheck_any f a cap W hT (by omega) (by unfold maxLen; omega) (fun i hi => by have := z3 i hi; unfold maxLen; omega)
    rw [hk] at this
    exact this
  clear hp hk z1 z2 z3
  go_enter Try.func8, Try.ntmps8
  go_wp2_with (first
    | (go_at_call 20; refine (HC.out _).mono ?_; rintro e w1 ⟨ad, cap, rfl, hb, hrow, hit⟩; have HB := hid hb; have hX := (Bf.new w 24 (.string ⟨#[]⟩) (.slice none 0 0)).kept (grown_below none hb) (by simp); have HX := hid hX; obtain ⟨xl, xc0, xc1, xf0, xf1⟩ := hX; have HRow := hid hrow; have HIt := hid hit; clear hb hrow hit)
    | (go_at_call 12; refine (HS.out _ _ _ (HIt.out.later ((Below.refl _ _).alloc (Nat.le_refl _) _))).mono ?_; rintro e w2 ⟨rfl, hb⟩; have HB2 := hid hb; have hX2 := (HX.out.alloc (.cells #[.string f.name, .slice ad f.items.length cap] 24)).kept (grown_below none hb) (by simp); have HX2 := hid hX2; have hI2 := (Bf.new w1 24 (.string f.name) (.slice ad f.items.length cap)).kept (grown_below none hb) (by simp); clear xc0 xc1 xf0 xf1 xl; obtain ⟨xl, xc0, xc1, xf0, xf1⟩ := hX2; obtain ⟨il, ic0, ic1, if0, if1⟩ := hI2; clear hb))
  have hX3 := HX2.out.set (.string f.name) (.slice ad f.items.length cap)
  have hw1 : w.heap.size < w1.heap.size := by have := HB.out.size; simp at this; omega
  have hB1 : Below w.heap.size w w1 := ((Below.refl _ _).alloc (Nat.le_refl _) _).trans (HB.out.mono (by simp))
  have hB2 : Below w1.heap.size w1 w2 := ((Below.refl _ _).alloc (Nat.le_refl _) _).trans (HB2.out.mono (by simp))
  have hB : Below w.heap.size w ((w2.setCell ⟨w.heap.size, 0, none⟩ (.string f.name)).setCell ⟨w.heap.size, 1, none⟩ (.slice ad f.items.length cap)) :=
    ((hB1.trans (hB2.mono (by omega))).setCell (p := ⟨w.heap.size, 0, none⟩) (Nat.le_refl _) _).setCell (p := ⟨w.heap.size, 1, none⟩) (Nat.le_refl _) _
  have hI : IRow w.heap.size ((w2.setCell ⟨w.heap.size, 0, none⟩ (.string f.name)).setCell ⟨w.heap.size, 1, none⟩ (.slice ad f.items.length cap)) (.slice ad f.items.length cap) f.items :=
    ownsRow_low (ownsRow_put (ownsRow_put (ownsRow_later HRow.out hB2) (by simp)) (by simp)) (by simp)
  generalize (w2.setCell ⟨w.heap.size, 0, none⟩ (.string f.name)).setCell ⟨w.heap.size, 1, none⟩ (.slice ad f.items.length cap) = F at *
  refine bodyPost_ret (v := .tuple #[.agg #[.string f.name, .slice ad f.items.length cap], .int .i64 0]) ?_ rfl ⟨hB, _, rfl, hI⟩
  simp [results, Try.results8, go_sem, hX3.c0, hX3.c1]

set_option maxHeartbeats 1600000 in
theorem Read_bad (hcl : CloneOk) (l : List UInt8) (f : Fc) (w : World) (hl : l.length ≤ 32768) (hp : wOk l = some f) (hk : ¬ chkF f = 0) :
    Calls Try.prog 8 #[.string (strOf l)] w fun e w' => REnds w (noF, 1) e w' := by
  have hz := strOf_size l
  have HC : Hid (∀ W, Calls Try.prog 20 #[.string (strOf l), .func (.func 21) #[] #[]] W fun e w' => ∃ ad cap, e = .returned (.tuple #[.agg #[.string f.name, .slice ad f.items.length cap], .bool true]) ∧ Below W.heap.size W w' ∧ IRow W.heap.size w' (.slice ad f.items.length cap) f.items ∧ ItemsAt w' ad f.items) := fun W => (Whole_any hcl l W (by omega)).mono fun e w' h => h.of_some hp
  obtain ⟨z1, z2, z3⟩ := wOk_fit hp
  obtain ⟨c, hk'⟩ : ∃ c, chkF f = c := ⟨_, rfl⟩
  have hc0 : ¬ c = 0 := by rw [← hk']; exact hk
  have HS : Hid (∀ W a cap, ItemsAt W a f.items → Calls Try.prog 12 #[.agg #[.string f.name, .slice a f.items.length cap]] W fun e w' => e = .returned (.int .i64 c) ∧ Below W.heap.size W w') := fun W a cap hT => by
    have := scopeCheck_any f a cap W hT (by omega) (by unfold maxLen; omega) (fun i hi => by have := z3 i hi; unfold maxLen; omega)
    rw [hk'] at this
    exact this
  clear hp hk hk' z1 z2 z3
  go_enter Try.func8, Try.ntmps8
  go_wp2_with (first
    | (go_at_call 20; refine (HC.out _).mono ?_; rintro e w1 ⟨ad, cap, rfl, hb, hrow, hit⟩; have HB := hid hb; have hX := (Bf.new w 24 (.string ⟨#[]⟩) (.slice none 0 0)).kept (grown_below none hb) (by simp); have HX := hid hX; obtain ⟨xl, xc0, xc1, xf0, xf1⟩ := hX; have HRow := hid hrow; have HIt := hid hit; clear hb hrow hit)
    | (go_at_call 12; refine (HS.out _ _ _ (HIt.out.later ((Below.refl _ _).alloc (Nat.le_refl _) _))).mono ?_; rintro e w2 ⟨rfl, hb⟩; have HB2 := hid hb; have hX2 := (HX.out.alloc (.cells #[.string f.name, .slice ad f.items.length cap] 24)).kept (grown_below none hb) (by simp); have HX2 := hid hX2; have hI2 := (Bf.new w1 24 (.string f.name) (.slice ad f.items.length cap)).kept (grown_below none hb) (by simp); clear xc0 xc1 xf0 xf1 xl; obtain ⟨xl, xc0, xc1, xf0, xf1⟩ := hX2; obtain ⟨il, ic0, ic1, if0, if1⟩ := hI2; clear hb))
  have hX3 := HX2.out.set (.string ⟨#[]⟩) (.slice none 0 0)
  have hw1 : w.heap.size < w1.heap.size := by have := HB.out.size; simp at this; omega
  have hB1 : Below w.heap.size w w1 := ((Below.refl _ _).alloc (Nat.le_refl _) _).trans (HB.out.mono (by simp))
  have hB2 : Below w1.heap.size w1 w2 := ((Below.refl _ _).alloc (Nat.le_refl _) _).trans (HB2.out.mono (by simp))
  have hB : Below w.heap.size w ((w2.setCell ⟨w.heap.size, 0, none⟩ (.string ⟨#[]⟩)).setCell ⟨w.heap.size, 1, none⟩ (.slice none 0 0)) :=
    ((hB1.trans (hB2.mono (by omega))).setCell (p := ⟨w.heap.size, 0, none⟩) (Nat.le_refl _) _).setCell (p := ⟨w.heap.size, 1, none⟩) (Nat.le_refl _) _
  generalize (w2.setCell ⟨w.heap.size, 0, none⟩ (.string ⟨#[]⟩)).setCell ⟨w.heap.size, 1, none⟩ (.slice none 0 0) = F at *
  refine bodyPost_ret (v := .tuple #[.agg #[.string ⟨#[]⟩, .slice none 0 0], .int .i64 1]) ?_ rfl ⟨hB, _, rfl, IRow.none _ _⟩
  simp [results, Try.results8, go_sem, hX3.c0, hX3.c1]

theorem Read_any (hcl : CloneOk) (l : List UInt8) (w : World) (hl : l.length ≤ 1000000000000000) :
    Calls Try.prog 8 #[.string (strOf l)] w fun e w' => REnds w (rdF l) e w' := by
  by_cases h : 32768 < l.length
  · rw [show rdF l = (noF, 2) from if_pos h]
    exact Read_many l w h hl
  · cases hp : wOk l with
    | none =>
      rw [show rdF l = (noF, 1) from by unfold rdF; rw [if_neg h, hp]]
      exact Read_none hcl l w (by omega) hp
    | some f =>
      by_cases hk : chkF f = 0
      · rw [show rdF l = (f, 0) from by unfold rdF; rw [if_neg h, hp]; exact if_pos hk]
        exact Read_some hcl l f w (by omega) hp hk
      · rw [show rdF l = (noF, 1) from by unfold rdF; rw [if_neg h, hp]; exact if_neg hk]
        exact Read_bad hcl l f w (by omega) hp hk

end Go.Proofs.Ytidhbgidkgopfaa
