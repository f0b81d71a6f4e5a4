/-
  What a step of the machine leaves: one step more, what was told stays told; and that with more steps the same comes.
-/
import Derived.Test.YtpahhhhfhnpmjaaPure
namespace Go.Proofs.Ytpahhhhfhnpmjaa
namespace Mc

def Goes (s s' : St) : Prop := s'.steps = s.steps ∧ s.out <+: s'.out
theorem Goes.refl (s : St) : Goes s s := ⟨rfl, List.prefix_refl _⟩
theorem Goes.trans {a b c : St} (h : Goes a b) (k : Goes b c) : Goes a c := ⟨k.1.trans h.1, h.2.trans k.2⟩
def Res.fin {α : Type} : Res α → St
  | .ok _ s => s
  | .stop s => s
theorem goes_bind {α β : Type} {s : St} {r : Res α} {f : α → St → Res β} (h : Goes s r.fin) (hf : ∀ a s', Goes s' (f a s').fin) : Goes s (r.bind f).fin := by
  cases r with
  | ok a s' => exact h.trans (hf a s')
  | stop s' => exact h
theorem goes_halt {α : Type} (e : Int) (s : St) : Goes s (halt e s : Res α).fin := ⟨rfl, List.prefix_refl _⟩
theorem goes_push (n : Int) (s : St) : Goes s (push n s).fin := by
  unfold push; split
  · exact ⟨rfl, List.prefix_refl _⟩
  · exact goes_halt _ _
theorem goes_pop (s : St) : Goes s (pop s).fin := by
  unfold pop; split
  · exact ⟨rfl, List.prefix_refl _⟩
  · exact goes_halt _ _
theorem goes_getL (l : List Int) (a : Int) (s : St) : Goes s (getL l a s).fin := by
  unfold getL; split
  · exact ⟨rfl, List.prefix_refl _⟩
  · exact goes_halt _ _
theorem goes_putLo (a n : Int) (s : St) : Goes s (putLo a n s).fin := by
  unfold putLo; split
  · exact ⟨rfl, List.prefix_refl _⟩
  · exact goes_halt _ _
theorem goes_putDa (a n : Int) (s : St) : Goes s (putDa a n s).fin := by
  unfold putDa; split
  · exact ⟨rfl, List.prefix_refl _⟩
  · exact goes_halt _ _
theorem goes_index (a b : Int) (s : St) : Goes s (index a b s).fin := by
  unfold index
  refine goes_bind (goes_pop s) (fun i s' => ?_)
  split
  · exact goes_halt _ _
  · exact goes_push _ _
theorem goes_math (op : Int) (s : St) : Goes s (math op s).fin := by
  unfold math; split
  · refine goes_bind (goes_pop s) (fun b s1 => goes_bind (goes_pop s1) (fun a s2 => ?_))
    split
    · exact goes_push _ _
    · exact goes_halt _ _
  · exact goes_halt _ _
theorem goes_tick (mt : Int) (s : St) : Goes s (tick mt s).fin := by
  unfold tick; split
  · exact goes_halt _ _
  · exact ⟨rfl, List.prefix_refl _⟩
theorem goes_call (mt to : Int) (s : St) : Goes s (call mt to s).fin := by
  unfold call
  refine goes_bind (goes_tick mt s) (fun _ s1 => ?_)
  split
  · exact goes_halt _ _
  · exact ⟨rfl, List.prefix_refl _⟩
theorem goes_enter (a b : Int) (s : St) : Goes s (enter a b s).fin := by
  unfold enter; split
  · split
    · exact ⟨rfl, List.prefix_refl _⟩
    · exact goes_halt _ _
  · exact goes_halt _ _
theorem goes_ret (s : St) : Goes s (ret s).fin := by
  unfold ret; split
  · exact goes_halt _ _
  · exact ⟨rfl, List.prefix_refl _⟩
theorem goes_next (s : St) : Goes s (next s).fin := ⟨rfl, List.prefix_refl _⟩
theorem goes_tell (n : Int) (s : St) : Goes s (tell n s).fin := by
  unfold tell; split
  · exact goes_halt _ _
  · exact ⟨rfl, List.prefix_append _ _⟩
theorem ite_goes {p : Prop} [Decidable p] {s : St} {x y : Res Unit} (hx : Goes s x.fin) (hy : Goes s y.fin) : Goes s (if p then x else y).fin := by split <;> assumption
theorem goes_do (mt : Int) (i : Ins) (s : St) : Goes s (doI mt i s).fin := by
  unfold doI
  refine ite_goes (goes_push _ _) (ite_goes (goes_bind (goes_getL _ _ _) goes_push) (ite_goes (goes_bind (goes_pop s) (fun n s => goes_putLo _ _ _)) (ite_goes (goes_bind (goes_getL _ _ _) goes_push) (ite_goes (goes_bind (goes_pop s) (fun n s => goes_putDa _ _ _)) (ite_goes (goes_index _ _ _) (ite_goes (goes_bind (goes_pop s) (fun a s => goes_bind (goes_getL _ _ _) goes_push)) (ite_goes (goes_bind (goes_pop s) (fun n s => goes_bind (goes_pop s) (fun a s => goes_putDa _ _ _))) (ite_goes (goes_bind (goes_pop s) (fun n s => goes_push _ _)) (ite_goes (goes_bind (goes_pop s) (fun n s => goes_push _ _)) (ite_goes (goes_math _ _) (ite_goes ⟨rfl, List.prefix_refl _⟩ (ite_goes (goes_bind (goes_pop s) (fun n s => ?_)) (ite_goes (goes_call _ _ _) (ite_goes (goes_enter _ _ _) (ite_goes (goes_ret _) (ite_goes (goes_tick _ _) (ite_goes (goes_bind (goes_pop s) (fun n s => Goes.refl s)) (ite_goes (goes_bind (goes_next s) goes_push) (ite_goes (goes_bind (goes_pop s) goes_tell) (ite_goes (goes_halt _ _) (Goes.refl s)))))))))))))))))))))
  show Goes s (if n = 0 then { s with pc := i.a } else s)
  split
  · exact ⟨rfl, List.prefix_refl _⟩
  · exact Goes.refl s

theorem core_steps (c : List Ins) (mt : Int) (s : St) : (core c mt s).fin.steps = s.steps + 1 ∧ s.out <+: (core c mt s).fin.out := by
  unfold core; split
  · exact goes_do mt _ _
  · exact ⟨rfl, List.prefix_refl _⟩
theorem step_ok {c : Cfg} {s s' : St} {u : Unit} (h : step c s = .ok u s') : s'.steps = s.steps + 1 ∧ s.out <+: s'.out ∧ s.steps ≠ c.ms ∧ core c.code c.mt s = .ok u s' := by
  unfold step at h
  split at h
  · cases h
  · have := core_steps c.code c.mt s
    rw [h] at this
    exact ⟨this.1, this.2, by assumption, h⟩
theorem step_stop {c : Cfg} {s s' : St} (h : step c s = .stop s') : (s.steps = c.ms ∧ s' = { s with en := 7 }) ∨ (s.steps ≠ c.ms ∧ core c.code c.mt s = .stop s' ∧ s'.steps = s.steps + 1 ∧ s.out <+: s'.out) := by
  unfold step at h
  split at h
  · exact Or.inl ⟨by assumption, (Res.stop.inj h).symm⟩
  · have := core_steps c.code c.mt s
    rw [h] at this
    exact Or.inr ⟨by assumption, h, this.1, this.2⟩

theorem run_succ (c : Cfg) (f : Nat) (s : St) : run c (f + 1) s = match step c s with
    | .stop s => s
    | .ok _ s => run c f s := rfl
/- enough rounds: that many more change nothing -/
theorem run_enough (c : Cfg) : ∀ (f g : Nat) (s : St), s.steps ≤ c.ms → (c.ms - s.steps).toNat < f → (c.ms - s.steps).toNat < g → run c f s = run c g s
  | 0, _, _, _, h, _ => by omega
  | _ + 1, 0, _, _, _, h => by omega
  | f + 1, g + 1, s, hs, hf, hg => by
    rw [run_succ, run_succ]
    cases hst : step c s with
    | stop s' => rfl
    | ok u s' =>
      obtain ⟨h1, _, h3, _⟩ := step_ok hst
      exact run_enough c f g s' (by omega) (by omega) (by omega)
/- as long as there are enough rounds, the run ends within its steps -/
theorem run_out (c : Cfg) : ∀ (f : Nat) (s : St), s.steps ≤ c.ms → s.out <+: (run c f s).out ∧ s.steps ≤ (run c f s).steps ∧ (run c f s).steps ≤ c.ms
  | 0, s, hs => ⟨List.prefix_refl _, Int.le_refl _, hs⟩
  | f + 1, s, hs => by
    rw [run_succ]
    cases hst : step c s with
    | stop s' =>
      rcases step_stop hst with ⟨h1, rfl⟩ | ⟨h1, _, h3, h4⟩
      · exact ⟨List.prefix_refl _, Int.le_refl _, hs⟩
      · refine ⟨h4, ?_, ?_⟩
        · show s.steps ≤ s'.steps; omega
        · show s'.steps ≤ c.ms; omega
    | ok u s' =>
      obtain ⟨h1, h2, h3, _⟩ := step_ok hst
      obtain ⟨h4, h5, h6⟩ := run_out c f s' (by omega)
      exact ⟨h2.trans h4, by show s.steps ≤ (run c f s').steps; omega, h6⟩
/- with more steps the same comes, if they were enough -/
theorem run_more (code : List Ins) (mt m1 m2 : Int) (hm : m1 ≤ m2) : ∀ (f g : Nat) (s : St), s.steps ≤ m1 → (m1 - s.steps).toNat < f → (m2 - s.steps).toNat < g →
    (run ⟨code, mt, m1⟩ f s).out <+: (run ⟨code, mt, m2⟩ g s).out ∧ ((run ⟨code, mt, m1⟩ f s).en ≠ 7 → run ⟨code, mt, m2⟩ g s = run ⟨code, mt, m1⟩ f s)
  | 0, _, _, _, h, _ => by omega
  | _ + 1, 0, _, _, _, h => by omega
  | f + 1, g + 1, s, hs, hf, hg => by
    rw [run_succ ⟨code, mt, m1⟩]
    cases hst : step ⟨code, mt, m1⟩ s with
    | stop s' =>
      rcases step_stop hst with ⟨h1, rfl⟩ | ⟨h1, h2, h3, h4⟩
      · exact ⟨(run_out ⟨code, mt, m2⟩ (g + 1) s (by show s.steps ≤ m2; omega)).1, fun h => absurd rfl h⟩
      · have h1' : s.steps ≠ m1 := h1
        have e : step ⟨code, mt, m2⟩ s = .stop s' := by
          unfold step
          rw [if_neg (by show s.steps ≠ m2; omega)]
          exact h2
        rw [run_succ, e]
        exact ⟨List.prefix_refl _, fun _ => rfl⟩
    | ok u s' =>
      obtain ⟨h1, h2, h3, h4⟩ := step_ok hst
      have h3' : s.steps ≠ m1 := h3
      have e : step ⟨code, mt, m2⟩ s = .ok u s' := by
        unfold step
        rw [if_neg (by show s.steps ≠ m2; omega)]
        exact h4
      rw [run_succ, e]
      exact run_more code mt m1 m2 hm f g s' (by omega) (by omega) (by omega)

end Mc
end Go.Proofs.Ytpahhhhfhnpmjaa
