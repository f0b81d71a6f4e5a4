/-
  No more ticks are used than there are.
-/
import Derived.Test.YtljdoholcdhkhaaPurb
namespace Go.Proofs.Ytljdoholcdhkhaa
namespace Mc

def Tks (mt : Int) (s s' : St) : Prop := s.ticks ≤ mt → s'.ticks ≤ mt
theorem Tks.refl (mt : Int) (s : St) : Tks mt s s := fun h => h
theorem Tks.trans {mt : Int} {a b c : St} (h : Tks mt a b) (k : Tks mt b c) : Tks mt a c := fun x => k (h x)
theorem tks_bind {mt : Int} {α β : Type} {s : St} {r : Res α} {f : α → St → Res β} (h : Tks mt s r.fin) (hf : ∀ a s', Tks mt s' (f a s').fin) : Tks mt s (r.bind f).fin := by
  cases r with
  | ok a s' => exact h.trans (hf a s')
  | stop s' => exact h
theorem tks_halt {mt : Int} {α : Type} (e : Int) (s : St) : Tks mt s (halt e s : Res α).fin := (fun h => h)
theorem tks_push {mt : Int} (n : Int) (s : St) : Tks mt s (push n s).fin := by
  unfold push; split
  · exact (fun h => h)
  · exact tks_halt _ _
theorem tks_pop {mt : Int} (s : St) : Tks mt s (pop s).fin := by
  unfold pop; split
  · exact (fun h => h)
  · exact tks_halt _ _
theorem tks_getL {mt : Int} (l : List Int) (a : Int) (s : St) : Tks mt s (getL l a s).fin := by
  unfold getL; split
  · exact (fun h => h)
  · exact tks_halt _ _
theorem tks_putLo {mt : Int} (a n : Int) (s : St) : Tks mt s (putLo a n s).fin := by
  unfold putLo; split
  · exact (fun h => h)
  · exact tks_halt _ _
theorem tks_putDa {mt : Int} (a n : Int) (s : St) : Tks mt s (putDa a n s).fin := by
  unfold putDa; split
  · exact (fun h => h)
  · exact tks_halt _ _
theorem tks_index {mt : Int} (a b : Int) (s : St) : Tks mt s (index a b s).fin := by
  unfold index
  refine tks_bind (tks_pop s) (fun i s' => ?_)
  split
  · exact tks_halt _ _
  · exact tks_push _ _
theorem tks_math {mt : Int} (op : Int) (s : St) : Tks mt s (math op s).fin := by
  unfold math; split
  · refine tks_bind (tks_pop s) (fun b s1 => tks_bind (tks_pop s1) (fun a s2 => ?_))
    split
    · exact tks_push _ _
    · exact tks_halt _ _
  · exact tks_halt _ _
theorem tks_tick (mt : Int) (s : St) : Tks mt s (tick mt s).fin := by
  unfold tick; split
  · exact tks_halt _ _
  · intro h; show s.ticks + 1 ≤ mt; omega
theorem tks_call (mt to : Int) (s : St) : Tks mt s (call mt to s).fin := by
  unfold call
  refine tks_bind (tks_tick mt s) (fun _ s1 => ?_)
  split
  · exact tks_halt _ _
  · exact (fun h => h)
theorem tks_enter {mt : Int} (a b : Int) (s : St) : Tks mt s (enter a b s).fin := by
  unfold enter; split
  · split
    · exact (fun h => h)
    · exact tks_halt _ _
  · exact tks_halt _ _
theorem tks_ret {mt : Int} (s : St) : Tks mt s (ret s).fin := by
  unfold ret; split
  · exact tks_halt _ _
  · exact (fun h => h)
theorem tks_next {mt : Int} (s : St) : Tks mt s (next s).fin := (fun h => h)
theorem tks_tell {mt : Int} (n : Int) (s : St) : Tks mt s (tell n s).fin := by
  unfold tell; split
  · exact tks_halt _ _
  · exact (fun h => h)
theorem ite_tks {mt : Int} {p : Prop} [Decidable p] {s : St} {x y : Res Unit} (hx : Tks mt s x.fin) (hy : Tks mt s y.fin) : Tks mt s (if p then x else y).fin := by split <;> assumption
theorem tks_do (mt : Int) (i : Ins) (s : St) : Tks mt s (doI mt i s).fin := by
  unfold doI
  refine ite_tks (tks_push _ _) (ite_tks (tks_bind (tks_getL _ _ _) tks_push) (ite_tks (tks_bind (tks_pop s) (fun n s => tks_putLo _ _ _)) (ite_tks (tks_bind (tks_getL _ _ _) tks_push) (ite_tks (tks_bind (tks_pop s) (fun n s => tks_putDa _ _ _)) (ite_tks (tks_index _ _ _) (ite_tks (tks_bind (tks_pop s) (fun a s => tks_bind (tks_getL _ _ _) tks_push)) (ite_tks (tks_bind (tks_pop s) (fun n s => tks_bind (tks_pop s) (fun a s => tks_putDa _ _ _))) (ite_tks (tks_bind (tks_pop s) (fun n s => tks_push _ _)) (ite_tks (tks_bind (tks_pop s) (fun n s => tks_push _ _)) (ite_tks (tks_math _ _) (ite_tks (fun h => h) (ite_tks (tks_bind (tks_pop s) (fun n s => ?_)) (ite_tks (tks_call _ _ _) (ite_tks (tks_enter _ _ _) (ite_tks (tks_ret _) (ite_tks (tks_tick _ _) (ite_tks (tks_bind (tks_pop s) (fun n s => Tks.refl _ s)) (ite_tks (tks_bind (tks_next s) tks_push) (ite_tks (tks_bind (tks_pop s) tks_tell) (ite_tks (tks_halt _ _) (Tks.refl _ s)))))))))))))))))))))
  show Tks mt s (if n = 0 then { s with pc := i.a } else s)
  split
  · exact (fun h => h)
  · exact Tks.refl _ s

theorem core_ticks (c : List Ins) (mt : Int) (s : St) : Tks mt s (core c mt s).fin := by
  unfold core; split
  · exact fun h => tks_do mt _ _ h
  · exact fun h => h
theorem run_ticks (c : Cfg) : ∀ (f : Nat) (s : St), s.ticks ≤ c.mt → (run c f s).ticks ≤ c.mt
  | 0, s, h => h
  | f + 1, s, h => by
    rw [run_succ]
    cases hst : step c s with
    | stop s' =>
      rcases step_stop hst with ⟨_, rfl⟩ | ⟨_, h2, _⟩
      · exact h
      · have := core_ticks c.code c.mt s h
        rw [h2] at this
        exact this
    | ok u s' =>
      obtain ⟨_, _, _, h4⟩ := step_ok hst
      have := core_ticks c.code c.mt s h
      rw [h4] at this
      exact run_ticks c f s' this

end Mc
end Go.Proofs.Ytljdoholcdhkhaa
