/-
  Numbers and results that are the same are told so; and what must be in any case.
-/
import Derived.Test.YtpahhhhfhnpmjaaMach
namespace Go.Proofs.Ytpahhhhfhnpmjaa
open Go.RowKit Go.Shelf
set_option maxRecDepth 100000

theorem below_drewN {B : Nat} {a w : World} (h : Below B a w) (m : Nat) : Below B a (w.drewN m) := ⟨h.os, h.tape, h.output, h.size, h.block⟩
theorem NumsAt.drewN {w : World} {a : Option Addr} {l : List Int} (h : NumsAt w a l) (m : Nat) : NumsAt (w.drewN m) a l := h
theorem NumsAt.take {w : World} {a : Option Addr} {l : List Int} (h : NumsAt w a l) (n : Nat) : NumsAt w a (l.take n) := by
  rcases h with h | ⟨b, off, e, hl, h⟩
  · exact Or.inl (by rw [h]; simp)
  · refine Or.inr ⟨b, off, e, hl, fun i hi => ?_⟩
    rw [List.length_take] at hi
    rw [List.getElem_take]
    exact h i (by omega)
theorem NumsAt.place {w : World} {a : Option Addr} {l : List Int} (h : NumsAt w a l) {k : Nat} (hk : k < l.length) : ∃ b off, a = some ⟨b, off, none⟩ ∧ w.cell? ⟨b, off + k, none⟩ = some (.int .i64 l[k]) := by
  rcases h with h | ⟨b, off, e, hl, h⟩
  · subst h; simp at hk
  · exact ⟨b, off, e, h k hk⟩

set_option maxHeartbeats 800000 in
theorem SameInts_same (a b : Option Addr) (c1 c2 : Nat) (l : List Int) (w : World) (ha : NumsAt w a l) (hb : NumsAt w b l) (hl : l.length ≤ 1000000000000000) :
    Calls Try.prog 29 #[.slice a l.length c1, .slice b l.length c2] w fun e w' => e = .returned (.bool true) ∧ ∃ m, w' = w.drewN m := by
  have HA := hid ha
  have HB := hid hb
  clear ha hb
  go_enter Try.func29, Try.ntmps29
  go_wp2_with fail
  go_loopw [5] (fun i wr => ∃ k m : Nat, k ≤ l.length ∧ i = .int .i64 k ∧ wr = w.drewN m) (fun i _ => l.length - (intOf i).toNat)
  case atStart => exact ⟨0, 0, Nat.zero_le _, rfl, rfl⟩
  case round =>
    obtain ⟨k, m, hk, rfl, rfl⟩ := hrel
    by_cases hlt : k < l.length
    · obtain ⟨b1, o1, rfl, hc0⟩ := (HA.out.drewN m).place hlt
      obtain ⟨b2, o2, rfl, hd0⟩ := (HB.out.drewN m).place hlt
      have hc := hid hc0
      generalize hW : w.drewN m = W at *
      have HW := hid hW
      clear hW
      go_wp2_with fail
      go_quiet ((fail))
      go_wp2_with fail
      go_roundw
      case rel => exact ⟨k + 1, m + nq, by omega, by go_num, by rw [← HW.out, World.drewN_drewN]⟩
      case measure => simp [intOf]; omega
    · go_wp2_with fail
      go_ret
      exact ⟨rfl, m, rfl⟩

set_option maxHeartbeats 800000 in
theorem SameResults_same (en tk : Int) (oa ob da db : Option Addr) (c1 c2 c3 c4 : Nat) (l r : List Int) (w : World) (h1 : NumsAt w oa l) (h2 : NumsAt w ob l) (h3 : NumsAt w da r) (h4 : NumsAt w db r) (hl : l.length ≤ 1000000000000000) (hr : r.length ≤ 1000000000000000) :
    Calls Try.prog 15 #[.agg #[.int .i64 en, .slice oa l.length c1, .slice da r.length c3, .int .i64 tk], .agg #[.int .i64 en, .slice ob l.length c2, .slice db r.length c4, .int .i64 tk]] w fun e w' => e = .returned (.bool true) ∧ Below w.heap.size w w' := by
  have H1 := hid h1
  have H2 := hid h2
  have H3 := hid h3
  have H4 := hid h4
  have HL := hid hl
  have HR := hid hr
  clear h1 h2 h3 h4 hl hr
  have HS : Hid (∀ W, Below w.heap.size w W → Calls Try.prog 29 #[.slice oa l.length c1, .slice ob l.length c2] W fun e w' => e = .returned (.bool true) ∧ ∃ m, w' = W.drewN m) := fun W hb => SameInts_same oa ob c1 c2 l W (H1.out.later hb) (H2.out.later hb) HL.out
  have HT : Hid (∀ W, Below w.heap.size w W → Calls Try.prog 29 #[.slice da r.length c3, .slice db r.length c4] W fun e w' => e = .returned (.bool true) ∧ ∃ m, w' = W.drewN m) := fun W hb => SameInts_same da db c3 c4 r W (H3.out.later hb) (H4.out.later hb) HR.out
  clear H1 H2 H3 H4 HL HR
  have hb2 : Below w.heap.size w ((w.alloc (.cells #[.int .i64 en, .slice oa l.length c1, .slice da r.length c3, .int .i64 tk] 40)).alloc (.cells #[.int .i64 en, .slice ob l.length c2, .slice db r.length c4, .int .i64 tk] 40)) := (((Below.refl _ _).alloc (Nat.le_refl _) _).alloc (by simp) _)
  have HB2 := hid hb2
  clear hb2
  generalize l.length = n at *
  generalize r.length = k at *
  go_enter Try.func15, Try.ntmps15
  go_wp2_with fail
  refine (HS.out _ HB2.out).mono ?_
  rintro e w1 ⟨rfl, m1, rfl⟩
  go_wp2_with fail
  refine (HT.out _ (below_drewN HB2.out m1)).mono ?_
  rintro e w1 ⟨rfl, m2, rfl⟩
  go_wp2_with fail
  go_ret
  exact ⟨rfl, below_drewN HB2.out _⟩

end Go.Proofs.Ytpahhhhfhnpmjaa
