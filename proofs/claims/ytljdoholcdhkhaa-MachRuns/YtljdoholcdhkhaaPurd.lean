/-
  No more is told than there is room for.
-/
import Derived.Test.YtljdoholcdhkhaaPurb
namespace Go.Proofs.Ytljdoholcdhkhaa
namespace Mc

def Ots (_ : Int) (s s' : St) : Prop := s.out.length ≤ 200 → s'.out.length ≤ 200
theorem Ots.refl (mt : Int) (s : St) : Ots mt s s := fun h => h
theorem Ots.trans {mt : Int} {a b c : St} (h : Ots mt a b) (k : Ots mt b c) : Ots mt a c := fun x => k (h x)
theorem ots_bind {mt : Int} {α β : Type} {s : St} {r : Res α} {f : α → St → Res β} (h : Ots mt s r.fin) (hf : ∀ a s', Ots mt s' (f a s').fin) : Ots mt s (r.bind f).fin := by
  cases r with
  | ok a s' => exact h.trans (hf a s')
  | stop s' => exact h
theorem ots_halt {mt : Int} {α : Type} (e : Int) (s : St) : Ots mt s (halt e s : Res α).fin := (fun h => h)
theorem ots_push {mt : Int} (n : Int) (s : St) : Ots mt s (push n s).fin := by
  unfold push; split
  · exact (fun h => h)
  · exact ots_halt _ _
theorem ots_pop {mt : Int} (s : St) : Ots mt s (pop s).fin := by
  unfold pop; split
  · exact (fun h => h)
  · exact ots_halt _ _
theorem ots_getL {mt : Int} (l : List Int) (a : Int) (s : St) : Ots mt s (getL l a s).fin := by
  unfold getL; split
  · exact (fun h => h)
  · exact ots_halt _ _
theorem ots_putLo {mt : Int} (a n : Int) (s : St) : Ots mt s (putLo a n s).fin := by
  unfold putLo; split
  · exact (fun h => h)
  · exact ots_halt _ _
theorem ots_putDa {mt : Int} (a n : Int) (s : St) : Ots mt s (putDa a n s).fin := by
  unfold putDa; split
  · exact (fun h => h)
  · exact ots_halt _ _
theorem ots_index {mt : Int} (a b : Int) (s : St) : Ots mt s (index a b s).fin := by
  unfold index
  refine ots_bind (ots_pop s) (fun i s' => ?_)
  split
  · exact ots_halt _ _
  · exact ots_push _ _
theorem ots_math {mt : Int} (op : Int) (s : St) : Ots mt s (math op s).fin := by
  unfold math; split
  · refine ots_bind (ots_pop s) (fun b s1 => ots_bind (ots_pop s1) (fun a s2 => ?_))
    split
    · exact ots_push _ _
    · exact ots_halt _ _
  · exact ots_halt _ _
theorem ots_tick (mt : Int) (s : St) : Ots mt s (tick mt s).fin := by
  unfold tick; split
  · exact ots_halt _ _
  · exact (fun h => h)
theorem ots_call (mt to : Int) (s : St) : Ots mt s (call mt to s).fin := by
  unfold call
  refine ots_bind (ots_tick mt s) (fun _ s1 => ?_)
  split
  · exact ots_halt _ _
  · exact (fun h => h)
theorem ots_enter {mt : Int} (a b : Int) (s : St) : Ots mt s (enter a b s).fin := by
  unfold enter; split
  · split
    · exact (fun h => h)
    · exact ots_halt _ _
  · exact ots_halt _ _
theorem ots_ret {mt : Int} (s : St) : Ots mt s (ret s).fin := by
  unfold ret; split
  · exact ots_halt _ _
  · exact (fun h => h)
theorem ots_next {mt : Int} (s : St) : Ots mt s (next s).fin := (fun h => h)
theorem ots_tell {mt : Int} (n : Int) (s : St) : Ots mt s (tell n s).fin := by
  unfold tell; split
  · exact ots_halt _ _
  · intro h
    show (s.out ++ [n]).length ≤ 200
    rw [List.length_append]
    simp only [List.length_cons, List.length_nil]
    omega
theorem ite_ots {mt : Int} {p : Prop} [Decidable p] {s : St} {x y : Res Unit} (hx : Ots mt s x.fin) (hy : Ots mt s y.fin) : Ots mt s (if p then x else y).fin := by split <;> assumption
theorem ots_do (mt : Int) (i : Ins) (s : St) : Ots mt s (doI mt i s).fin := by
  unfold doI
  refine ite_ots (ots_push _ _) (ite_ots (ots_bind (ots_getL _ _ _) ots_push) (ite_ots (ots_bind (ots_pop s) (fun n s => ots_putLo _ _ _)) (ite_ots (ots_bind (ots_getL _ _ _) ots_push) (ite_ots (ots_bind (ots_pop s) (fun n s => ots_putDa _ _ _)) (ite_ots (ots_index _ _ _) (ite_ots (ots_bind (ots_pop s) (fun a s => ots_bind (ots_getL _ _ _) ots_push)) (ite_ots (ots_bind (ots_pop s) (fun n s => ots_bind (ots_pop s) (fun a s => ots_putDa _ _ _))) (ite_ots (ots_bind (ots_pop s) (fun n s => ots_push _ _)) (ite_ots (ots_bind (ots_pop s) (fun n s => ots_push _ _)) (ite_ots (ots_math _ _) (ite_ots (fun h => h) (ite_ots (ots_bind (ots_pop s) (fun n s => ?_)) (ite_ots (ots_call _ _ _) (ite_ots (ots_enter _ _ _) (ite_ots (ots_ret _) (ite_ots (ots_tick _ _) (ite_ots (ots_bind (ots_pop s) (fun n s => Ots.refl _ s)) (ite_ots (ots_bind (ots_next s) ots_push) (ite_ots (ots_bind (ots_pop s) ots_tell) (ite_ots (ots_halt _ _) (Ots.refl _ s)))))))))))))))))))))
  show Ots mt s (if n = 0 then { s with pc := i.a } else s)
  split
  · exact (fun h => h)
  · exact Ots.refl _ s

theorem core_room (c : List Ins) (mt : Int) (s : St) : Ots mt s (core c mt s).fin := by
  unfold core; split
  · exact fun h => ots_do mt _ _ h
  · exact fun h => h
end Mc
end Go.Proofs.Ytljdoholcdhkhaa
