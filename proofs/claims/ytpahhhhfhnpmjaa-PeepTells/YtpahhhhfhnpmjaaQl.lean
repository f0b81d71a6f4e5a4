/-
  The first rule that applies at a place: whichever it is.
-/
import Derived.Test.YtpahhhhfhnpmjaaQk
namespace Go.Proofs.Ytpahhhhfhnpmjaa
open Go.RowKit Go.Shelf
set_option maxRecDepth 100000

theorem look_any (wa : Option Addr) (g m n wc gc mc : Nat) (was c : List Mc.Ins) (mk : List Bool) (i : Nat) (w : World) (h : Hole w wa g m was c mk) (hn : n = was.length) (hi : i < n) (hgc : n ≤ gc) :
    Calls Try.prog 17 #[.agg #[.slice wa n wc, .slice (some ⟨g, 0, none⟩) n gc, .slice (some ⟨m, 0, none⟩) n mc], .int .i64 i] w fun e w' => e = .returned (.tuple #[]) ∧ CRow w' g (Mc.lookAt was c mk i) ∧ w.grownBy w' (some g) := by
  cases h0 : followB c mk i [11] with
  | true => exact look_short1 wa g m n wc gc mc was c mk i w h hn hi h0
  | false =>
    cases h1 : followB c mk i [12] with
    | true => exact look_short2 wa g m n wc gc mc was c mk i w h hn hi h0 h1
    | false =>
      cases h2 : followB c mk i [1, 1, 10] with
      | true =>
        cases hf : Mc.foldsB (c.getD (i + 2) Mc.dI).a with
        | true => exact look_fold wa g m n wc gc mc was c mk i w h hn hi hgc h0 h1 h2 hf
        | false =>
          have key : ∀ y : Int, y ≠ 1 → followB c mk i [1, y] = false := fun y hy => by
            cases hq : followB c mk i [1, y] with
            | false => rfl
            | true =>
              rw [follow2] at hq
              rw [follow3] at h2
              simp only [Bool.and_eq_true] at hq h2
              have e1 := (Mc.bare_of hq.2).2.1
              have e2 := (Mc.bare_of h2.1.2).2.1
              exact absurd (e1.symm.trans e2) hy
          exact look_none3 wa g m n wc gc mc was c mk i w h hn hi h0 h1 h2 (key 12 (by decide)) (key 9 (by decide)) (key 22 (by decide)) (key 17 (by decide)) hf
      | false =>
        cases h3 : followB c mk i [1, 12] with
        | true =>
          by_cases hz : (c.getD i Mc.dI).a = 0
          · exact look_dec0 wa g m n wc gc mc was c mk i w h hn hi hgc h0 h1 h2 h3 hz
          · exact look_dec1 wa g m n wc gc mc was c mk i w h hn hi hgc h0 h1 h2 h3 hz
        | false =>
          cases h4 : followB c mk i [1, 9] with
          | true => exact look_not wa g m n wc gc mc was c mk i w h hn hi hgc h0 h1 h2 h3 h4
          | false =>
            cases h5 : followB c mk i [1, 22] with
            | true => exact look_truth wa g m n wc gc mc was c mk i w h hn hi hgc h0 h1 h2 h3 h4 h5
            | false =>
              cases h6 : followB c mk i [1, 17] with
              | true => exact look_drop wa g m n wc gc mc was c mk i w h hn hi hgc h0 h1 h2 h3 h4 h5 h6
              | false => exact look_none wa g m n wc gc mc was c mk i w h hn hi h0 h1 h2 h3 h4 h5 h6

end Go.Proofs.Ytpahhhhfhnpmjaa
