/-
  The reference's machine: push.
-/
import Derived.Test.YtljdoholcdhkhaaGp
namespace Go.Proofs.Ytljdoholcdhkhaa
open Go.RowKit Go.Shelf
set_option maxRecDepth 100000

section
variable {B R : Nat} {mt : Int} {w0 w w' : World} {T : Nat → Nat} {v : Gv} {g : Rg.G}
theorem GAt.alloc (h : GAt B R mt w0 w T v g) (o : Obj) : GAt B R mt w0 (w.alloc o) T v g := h.later ((Below.refl _ _).alloc (Nat.le_refl _) o)
theorem GAt.far {w1 : World} {vr : Value} {m : Nat} (h : GAt B R mt w0 w T v g) (hm : ∀ k, vr.ownBlock = some k → T k = m) (hm1 : m ≠ 1) (hg : w.grownBy w1 vr.ownBlock) :
    (∀ j, w1.cell? ⟨R, j, none⟩ = w.cell? ⟨R, j, none⟩) ∧ (∀ j, w1.frozen? ⟨R, j, none⟩ = false) ∧ R < w1.heap.size := by
  have e : w1.heap[R]? = w.heap[R]? := hg.block R h.ltR (fun e => hm1 (by rw [← hm R e.symm]; exact h.tR))
  exact ⟨fun j => World.cell?_of_block (w := w) e, fun j => (World.frozen?_of_block (w := w) e).trans (h.cell.2.2.2.2.2.2.2.2.2.2 j), Nat.lt_of_lt_of_le h.ltR hg.size⟩
end

set_option maxHeartbeats 800000 in
theorem gpush_any (B R : Nat) (mt : Int) (w0 : World) (F : Value × Option (Nat × Obj)) (L : List Value) (g : Rg.G) (n : Int) (w : World) (h : Gch B R mt w0 F L w g) :
    Calls Try.prog 24 #[.pointer (some ⟨R, 0, none⟩), .int .i64 n] w (GEnd B R mt w0 F L (.tuple #[]) (Rg.push n g)) := by
  have HS : Hid (∀ W, Gch B R mt w0 F L W g → Calls Try.prog 19 #[.pointer (some ⟨R, 0, none⟩), .int .i64 6] W (GEnd B R mt w0 F L (.tuple #[]) (Rg.stop 6 g))) := fun W hW => gstop_any B R mt w0 F L g 6 W hW
  obtain ⟨T, ⟨st, fr, da, iv, ou, lv, bx⟩, h, hF, hL⟩ := h
  obtain ⟨i0, hi, hz0, hz1, hz2⟩ := info_parts info3
  obtain ⟨a, cap, hv, hcap, hmax⟩ := h.st.form
  simp only at hv
  subst hv
  have HM : Hid (GAt B R mt w0 w T ⟨.slice a g.s.stack.length cap, fr, da, iv, ou, lv, bx⟩ g) := h
  obtain ⟨-, c1, -, -, -, -, -, -, -, c9, ff⟩ := h.cell
  simp only at c1
  unfold maxLen at hmax
  have hbst := h.bst
  have hRl := h.ltR
  have f1 := ff 1
  clear h ff
  by_cases hl : g.s.stack.length < 2048
  · obtain ⟨s, o⟩ := g
    simp only at c1 c9 hl hbst hcap
    cases o with
    | true =>
      have HP : Hid (Rg.push n ⟨s, true⟩ = ⟨s, true⟩) := by
        show Rg.put n (Rg.full _) = _
        unfold Rg.full
        rw [if_pos hl]; rfl
      go_enter Try.func24, Try.ntmps24
      go_wp2_with fail
      go_end0
      exact ⟨rfl, T, _, by rw [HP.out]; exact HM.out, hF, hL⟩
    | false =>
      have HP : Hid (Rg.push n ⟨s, false⟩ = ⟨{ s with stack := s.stack ++ [n] }, false⟩) := by
        show Rg.put n (Rg.full _) = _
        unfold Rg.full
        rw [if_pos hl]; rfl
      go_enter Try.func24, Try.ntmps24
      go_wp2_with (at_builtin; refine wpList_append_lies _ rfl _ _ _ rfl B 3 i0 _ 1 8 Try.underlying25 hi hz0 hz1 hz2 rfl (by omega) (.slice a s.stack.length cap) s.stack.length (ints s.stack) rfl (HM.out.alloc _).st.own ⟨_, 0, none⟩ 1 1 [.int .i64 n] rfl rfl (cell_one_new _ _ _) (by simp; rfl) (by omega) (by unfold maxLen; omega) (by omega) (by have := HM.out.hB; simp; omega) _ rfl ?_; intro q cap' w1 hown1 hg hat hlt; obtain ⟨fc, ff, fl⟩ := (HM.out.alloc _).far (fun k e => HM.out.st.mark k e) (by decide) hg; have fc1 := (fc 1).trans (HM.out.alloc _).cell.2.1; have ff1 := ff 1; have HO := hid hown1; have HG := hid hg; have HT := hid hat; clear hown1 hg hat fc ff)
      go_end0
      exact ⟨rfl, _, _, by rw [HP.out]; exact (HM.out.alloc _).setSt HG.out (by rw [len_snoc, ← ints_snoc]; exact HO.out) (lies_at HT.out) (by rw [len_snoc]; omega), hF, hL⟩
  · have HP : Hid (Rg.push n g = Rg.stop 6 g) := by
      show Rg.put n (Rg.full _) = _
      unfold Rg.full
      rw [if_neg hl]
      unfold Rg.put
      rw [if_pos (stop_over 6 g)]
    go_enter Try.func24, Try.ntmps24
    go_wp2_with fail
    refine (HS.out _ ⟨T, _, HM.out, hF, hL⟩).mono ?_
    rintro e w1 ⟨rfl, T1, v1, h1, hF1, hL1⟩
    have d9 := h1.cell.2.2.2.2.2.2.2.2.2.1
    rw [stop_over 6 g] at d9
    have H1 := hid h1
    clear h1
    go_wp2_with fail
    go_end0
    exact ⟨rfl, T1, v1, by rw [HP.out]; exact H1.out, hF1, hL1⟩

end Go.Proofs.Ytljdoholcdhkhaa
