/-
  Code of which some pushes are put off: it does the same, step by step.
-/
import Derived.Test.YtpahhhhfhnpmjaaPb
namespace Go.Proofs.Ytpahhhhfhnpmjaa
namespace Mc
open Go.RowKit

/- what is put off at a place -/
structure Puts (c c' : List Ins) (pend : Int → List Int) : Prop where
  len : c'.length = c.length
  each : ∀ x : Nat, x < c.length →
    (c.getD x dI = c'.getD x dI ∧ pend x = [] ∧ pend ((x : Int) + 1) = [] ∧ ((c.getD x dI).op = 11 ∨ (c.getD x dI).op = 12 ∨ (c.getD x dI).op = 13 → pend (c.getD x dI).a = [])) ∨
    ((c.getD x dI).op = 1 ∧ c'.getD x dI = nopI ∧ pend ((x : Int) + 1) = pend x ++ [(c.getD x dI).a]) ∨
    (pend x ≠ [] ∧ pend ((x : Int) + 1) = [] ∧ ((c'.getD x dI).op = 11 ∨ (c'.getD x dI).op = 12 ∨ (c'.getD x dI).op = 13 → pend (c'.getD x dI).a = []) ∧
      ∀ mt (s : St), (s.stack ++ pend x).length ≤ 2048 → doI mt (c.getD x dI) { s with stack := s.stack ++ pend x } = doI mt (c'.getD x dI) s)
structure PRel (pend : Int → List Int) (s s' : St) : Prop where
  eq : s = { s' with stack := s'.stack ++ pend s'.pc }
  len : pend s'.pc ≠ [] → (s'.stack ++ pend s'.pc).length ≤ 2048
  backs : Backs (fun b => pend b = []) s'
theorem PRel.refl {pend : Int → List Int} {s : St} (h : pend s.pc = []) (hb : Backs (fun b => pend b = []) s) : PRel pend s s :=
  ⟨by rw [h, List.append_nil], fun h' => absurd h h', hb⟩

theorem core_in (c : List Ins) (mt : Int) (s : St) (x : Nat) (hx : x < c.length) (hp : s.pc = x) : core c mt s = doI mt (c.getD x dI) { s with steps := s.steps + 1, pc := (x : Int) + 1 } := by
  unfold core
  rw [if_pos (by omega)]
  rw [hp]
  rfl
theorem core_out (c : List Ins) (mt : Int) (s : St) (h : ¬ (0 ≤ s.pc ∧ s.pc < c.length)) : core c mt s = halt 6 { s with steps := s.steps + 1 } := if_neg h

theorem run_puts {c c' : List Ins} {pend : Int → List Int} (hP : Puts c c' pend) (mt ms : Int) : ∀ (f : Nat) (s s' : St), PRel pend s s' → s.steps ≤ ms → (ms - s.steps).toNat < f →
    (run ⟨c, mt, ms⟩ f s).en ≠ 6 → (run ⟨c, mt, ms⟩ f s).en ≠ 7 → run ⟨c', mt, ms⟩ f s' = run ⟨c, mt, ms⟩ f s
  | 0, _, _, _, _, h, _, _ => by omega
  | f + 1, s, s', hR, hs, hf, h6, h7 => by
    have hst : s'.steps = s.steps := by rw [hR.eq]
    have hpc : s'.pc = s.pc := by rw [hR.eq]
    rw [run_succ] at h6 h7 ⊢
    rw [run_succ]
    by_cases hm : s.steps = ms
    · have e : step ⟨c, mt, ms⟩ s = halt 7 s := if_pos hm
      rw [e] at h7
      exact absurd rfl h7
    · have e : step ⟨c, mt, ms⟩ s = core c mt s := if_neg hm
      have e' : step ⟨c', mt, ms⟩ s' = core c' mt s' := if_neg (by rw [hst]; exact hm)
      rw [e] at h6 h7 ⊢
      rw [e']
      by_cases hin : 0 ≤ s.pc ∧ s.pc < c.length
      · obtain ⟨x, hx⟩ := Int.eq_ofNat_of_zero_le hin.1
        have hxl : x < c.length := by omega
        have hc := core_in c mt s x hxl hx
        have hc' := core_in c' mt s' x (by rw [hP.len]; exact hxl) (by rw [hpc]; exact hx)
        have hpx : s'.pc = x := by rw [hpc]; exact hx
        have key : (core c mt s = core c' mt s') → (pend ((x : Int) + 1) = []) → ((c'.getD x dI).op = 11 ∨ (c'.getD x dI).op = 12 ∨ (c'.getD x dI).op = 13 → pend (c'.getD x dI).a = []) →
            (match core c' mt s' with
              | .stop s => s
              | .ok _ s => run ⟨c', mt, ms⟩ f s) = (match core c mt s with
              | .stop s => s
              | .ok _ s => run ⟨c, mt, ms⟩ f s) := by
          intro h1 h2 h3
          rw [h1] at h6 h7 ⊢
          cases hr : core c' mt s' with
          | stop F => rfl
          | ok u s1 =>
            rw [hr] at h6 h7
            simp only at h6 h7 ⊢
            have hq := hr
            rw [hc'] at hq
            obtain ⟨g1, g2⟩ := doI_pc mt _ _ s1 u hq (fun b => pend b = []) h2 h3 hR.backs
            have hsteps : s1.steps = s.steps + 1 := by
              have := (core_steps c' mt s').1
              rw [hr] at this
              rw [← hst]
              exact this
            exact run_puts hP mt ms f s1 s1 (PRel.refl g1 g2) (by omega) (by omega) h6 h7
        rcases hP.each x hxl with ⟨k1, k2, k3, k4⟩ | ⟨k1, k2, k3⟩ | ⟨k0, k1, k2, k3⟩
        · have hss : s = s' := by have := hR.eq; rw [show pend s'.pc = [] from by rw [hpx]; exact k2, List.append_nil] at this; exact this
          refine key ?_ k3 (by rw [← k1]; exact k4)
          rw [hc, hc', hss, k1]
        · rw [hc, doI_push _ _ _ k1] at h6 h7 ⊢
          rw [hc', doI_nop _ _ _ (by rw [k2]; rfl)]
          unfold push at h6 h7 ⊢
          by_cases hl : s.stack.length < 2048
          · have hl' : ({ s with steps := s.steps + 1, pc := (x : Int) + 1 } : St).stack.length < 2048 := hl
            rw [if_pos hl'] at h6 h7 ⊢
            simp only at h6 h7 ⊢
            have hstk : s.stack = s'.stack ++ pend x := by have := hR.eq; rw [hpx] at this; rw [this]
            refine run_puts hP mt ms f _ _ ⟨?_, ?_, hR.backs⟩ (by show s.steps + 1 ≤ ms; omega) (by show (ms - (s.steps + 1)).toNat < f; omega) h6 h7
            · have := hR.eq
              simp only
              rw [k3, hst, hstk, ← List.append_assoc, this]
            · intro _
              simp only
              rw [k3, ← List.append_assoc, ← hstk, List.length_append]
              simp only [List.length_cons, List.length_nil]
              omega
          · have hl' : ¬ ({ s with steps := s.steps + 1, pc := (x : Int) + 1 } : St).stack.length < 2048 := hl
            rw [if_neg hl'] at h6
            exact absurd rfl h6
        · refine key ?_ k1 k2
          rw [hc, hc']
          have hl := hR.len (by rw [hpx]; exact k0)
          rw [hpx] at hl
          have h4 := k3 mt { s' with steps := s'.steps + 1, pc := (x : Int) + 1 } hl
          rw [← h4]
          have := hR.eq
          rw [hpx] at this
          rw [this]
      · rw [core_out c mt s hin] at h6
        exact absurd rfl h6

end Mc
end Go.Proofs.Ytpahhhhfhnpmjaa
