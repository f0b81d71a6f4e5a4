/-
  Code whose jumps to jumps are shortened: it does the same, with no more steps.
-/
import Derived.Test.YtpahhhhfhnpmjaaPd
namespace Go.Proofs.Ytpahhhhfhnpmjaa
namespace Mc
open Go.RowKit

/- p is q, with some jumps that go where the jump that they go to goes -/
structure Short (q p : List Ins) : Prop where
  len : p.length = q.length
  each : ∀ x : Nat, x < q.length → p.getD x dI = q.getD x dI ∨
    (jumpB (q.getD x dI) = true ∧ ∃ t : Nat, (t : Int) = (q.getD x dI).a ∧ t < q.length ∧ (q.getD t dI).op = 11 ∧ p.getD x dI = ⟨(q.getD x dI).op, (q.getD t dI).a, (q.getD x dI).b⟩)
/- y is h jumps behind x -/
def hops (q : List Ins) : Nat → Int → Int → Prop
  | 0, x, y => x = y
  | h + 1, x, y => ∃ t : Nat, (t : Int) = x ∧ t < q.length ∧ (q.getD t dI).op = 11 ∧ hops q h (q.getD t dI).a y
structure HRel (q : List Ins) (h : Nat) (s s' : St) : Prop where
  hop : hops q h s.pc s'.pc
  eq : s' = { s with pc := s'.pc, steps := s'.steps }
  steps : s'.steps ≤ s.steps + h
def Alike (a b : St) : Prop := b.en = a.en ∧ b.out = a.out ∧ b.data = a.data ∧ b.ticks = a.ticks ∧ b.steps ≤ a.steps

theorem jump_step (q : List Ins) (mt : Int) (s : St) (t : Nat) (ht : (t : Int) = s.pc) (hl : t < q.length) (h : (q.getD t dI).op = 11) : core q mt s = .ok () { s with steps := s.steps + 1, pc := (q.getD t dI).a } := by
  rw [core_in q mt s t hl ht.symm, doI_jump _ _ _ h]

theorem run_short {q p : List Ins} (hP : Short q p) (mt ms : Int) : ∀ (f g h : Nat) (s s' : St), HRel q h s s' → s.steps ≤ ms → (ms - s.steps).toNat < f → s'.steps ≤ ms → (ms - s'.steps).toNat < g →
    (run ⟨q, mt, ms⟩ f s).en ≠ 6 → (run ⟨q, mt, ms⟩ f s).en ≠ 7 → Alike (run ⟨q, mt, ms⟩ f s) (run ⟨p, mt, ms⟩ g s')
  | 0, _, _, _, _, _, _, h, _, _, _, _ => by omega
  | _ + 1, 0, _, _, _, _, _, _, _, h, _, _ => by omega
  | f + 1, g + 1, h, s, s', hR, hs, hf, hs', hg, h6, h7 => by
    rw [run_succ ⟨q, mt, ms⟩] at h6 h7 ⊢
    by_cases hm : s.steps = ms
    · have e : step ⟨q, mt, ms⟩ s = halt 7 s := if_pos hm
      rw [e] at h7
      exact absurd rfl h7
    · have e : step ⟨q, mt, ms⟩ s = core q mt s := if_neg hm
      rw [e] at h6 h7 ⊢
      cases h with
      | succ h =>
        obtain ⟨t, ht, hl, h11, hh⟩ := hR.hop
        rw [jump_step q mt s t ht hl h11] at h6 h7 ⊢
        simp only at h6 h7 ⊢
        refine run_short hP mt ms f (g + 1) h _ s' ⟨hh, hR.eq, ?_⟩ ?_ ?_ hs' hg h6 h7
        · have := hR.steps; simp only; omega
        · simp only; omega
        · simp only; omega
      | zero =>
        have hpc : s.pc = s'.pc := hR.hop
        have hst : s'.steps ≤ s.steps := by have := hR.steps; simpa using this
        have hss : s' = s.at s'.steps := by
          have := hR.eq
          rw [← hpc] at this
          exact this
        by_cases hin : 0 ≤ s.pc ∧ s.pc < q.length
        · obtain ⟨x, hx⟩ := Int.eq_ofNat_of_zero_le hin.1
          have hxl : x < q.length := by omega
          have hc := core_in q mt s x hxl hx
          have hc' := core_in p mt s' x (by rw [hP.len]; exact hxl) (by rw [← hpc]; exact hx)
          have e' : step ⟨p, mt, ms⟩ s' = core p mt s' := if_neg (by show ¬ s'.steps = ms; omega)
          rw [run_succ ⟨p, mt, ms⟩, e']
          have hsame : ∀ i, doI mt i { s' with steps := s'.steps + 1, pc := (x : Int) + 1 } = (doI mt i { s with steps := s.steps + 1, pc := (x : Int) + 1 }).at (s'.steps + 1) := by
            intro i
            have := comm_do mt i { s with steps := s.steps + 1, pc := (x : Int) + 1 } (s'.steps + 1)
            rw [← this]
            congr 1
            rw [hss]
            rfl
          have hcs := (core_steps q mt s).1
          rcases hP.each x hxl with k | ⟨kj, t, kt, kl, k11, kp⟩
          · rw [k, hsame, ← hc] at hc'
            rw [hc']
            cases hr : core q mt s with
            | stop F => exact ⟨rfl, rfl, rfl, rfl, by
                rw [hr] at hcs
                simp only [Res.fin] at hcs
                show s'.steps + 1 ≤ F.steps
                omega⟩
            | ok u s1 =>
              rw [hr] at h6 h7 hcs
              simp only [Res.fin] at hcs
              simp only [Res.at] at h6 h7 ⊢
              refine run_short hP mt ms f g 0 s1 (s1.at (s'.steps + 1)) ⟨rfl, rfl, ?_⟩ (by omega) (by omega) ?_ ?_ h6 h7
              · show s'.steps + 1 ≤ s1.steps + 0; omega
              · show s'.steps + 1 ≤ ms; omega
              · show (ms - (s'.steps + 1)).toNat < g; omega
          · rw [kp] at hc'
            unfold jumpB at kj
            simp only [Bool.or_eq_true, decide_eq_true_eq] at kj
            rcases kj with k1 | k1
            · rw [doI_jump _ _ _ k1] at hc
              rw [doI_jump _ ⟨(q.getD x dI).op, (q.getD t dI).a, (q.getD x dI).b⟩ _ k1] at hc'
              rw [hc] at h6 h7 ⊢
              rw [hc']
              simp only at h6 h7 ⊢
              refine run_short hP mt ms f g 1 _ _ ⟨⟨t, kt, kl, k11, rfl⟩, ?_, ?_⟩ ?_ ?_ ?_ ?_ h6 h7
              · simp only; rw [hss]; rfl
              · simp only; omega
              · simp only; omega
              · simp only; omega
              · simp only; omega
              · simp only; omega
            · rw [doI_zero _ _ _ k1] at hc
              rw [doI_zero _ ⟨(q.getD x dI).op, (q.getD t dI).a, (q.getD x dI).b⟩ _ k1] at hc'
              have hpop : pop { s' with steps := s'.steps + 1, pc := (x : Int) + 1 } = (pop { s with steps := s.steps + 1, pc := (x : Int) + 1 }).at (s'.steps + 1) := by
                have := comm_pop { s with steps := s.steps + 1, pc := (x : Int) + 1 } (s'.steps + 1)
                rw [← this]
                congr 1
                rw [hss]
                rfl
              rw [hpop] at hc'
              have hk := goes_pop { s with steps := s.steps + 1, pc := (x : Int) + 1 }
              cases hr : pop { s with steps := s.steps + 1, pc := (x : Int) + 1 } with
              | stop F =>
                rw [hr] at hc
                simp only [Res.bind] at hc
                have : F.en = 6 := by
                  unfold pop at hr
                  split at hr
                  · cases hr
                  · cases hr; rfl
                rw [hc] at h6
                exact absurd this h6
              | ok n s1 =>
                rw [hr] at hc hc' hk
                have hks : s1.steps = s.steps + 1 := hk.1
                simp only [Res.bind, Res.at] at hc hc'
                rw [hc] at h6 h7 ⊢
                rw [hc']
                simp only at h6 h7 ⊢
                by_cases hn : n = 0
                · rw [if_pos hn] at h6 h7 ⊢
                  rw [if_pos hn]
                  refine run_short hP mt ms f g 1 _ _ ⟨⟨t, kt, kl, k11, rfl⟩, rfl, ?_⟩ ?_ ?_ ?_ ?_ h6 h7
                  · show s'.steps + 1 ≤ s1.steps + 1; omega
                  · show s1.steps ≤ ms; omega
                  · show (ms - s1.steps).toNat < f; omega
                  · show s'.steps + 1 ≤ ms; omega
                  · show (ms - (s'.steps + 1)).toNat < g; omega
                · rw [if_neg hn] at h6 h7 ⊢
                  rw [if_neg hn]
                  refine run_short hP mt ms f g 0 _ _ ⟨rfl, rfl, ?_⟩ ?_ ?_ ?_ ?_ h6 h7
                  · show s'.steps + 1 ≤ s1.steps + 0; omega
                  · show s1.steps ≤ ms; omega
                  · show (ms - s1.steps).toNat < f; omega
                  · show s'.steps + 1 ≤ ms; omega
                  · show (ms - (s'.steps + 1)).toNat < g; omega
        · rw [core_out q mt s hin] at h6
          exact absurd rfl h6
termination_by f _ _ => f

end Mc
end Go.Proofs.Ytpahhhhfhnpmjaa
