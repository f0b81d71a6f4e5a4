/-
  What an instruction leaves as it was: where to go on, the calls; and that the count of steps is only counted.
-/
import Derived.Test.YtpahhhhfhnpmjaaPa
namespace Go.Proofs.Ytpahhhhfhnpmjaa
namespace Mc
open Go.RowKit

def Keep {α : Type} (s : St) : Res α → Prop
  | .ok _ s' => s'.pc = s.pc ∧ s'.gs = s.gs ∧ s'.bk = s.bk
  | .stop _ => True
theorem keep_bind {α β : Type} {s : St} {r : Res α} {f : α → St → Res β} (h : Keep s r) (hf : ∀ a s', Keep s' (f a s')) : Keep s (r.bind f) := by
  cases r with
  | stop s' => exact True.intro
  | ok a s' =>
    have := hf a s'
    show Keep s (f a s')
    cases hr : f a s' with
    | stop _ => exact True.intro
    | ok b s2 =>
      rw [hr] at this
      exact ⟨this.1.trans h.1, this.2.1.trans h.2.1, this.2.2.trans h.2.2⟩
theorem keep_push (n : Int) (s : St) : Keep s (push n s) := by unfold push; split <;> first | exact ⟨rfl, rfl, rfl⟩ | exact True.intro
theorem keep_pop (s : St) : Keep s (pop s) := by unfold pop; split <;> first | exact ⟨rfl, rfl, rfl⟩ | exact True.intro
theorem keep_getL (l : List Int) (a : Int) (s : St) : Keep s (getL l a s) := by unfold getL; split <;> first | exact ⟨rfl, rfl, rfl⟩ | exact True.intro
theorem keep_putLo (a n : Int) (s : St) : Keep s (putLo a n s) := by unfold putLo; split <;> first | exact ⟨rfl, rfl, rfl⟩ | exact True.intro
theorem keep_putDa (a n : Int) (s : St) : Keep s (putDa a n s) := by unfold putDa; split <;> first | exact ⟨rfl, rfl, rfl⟩ | exact True.intro
theorem keep_index (a b : Int) (s : St) : Keep s (index a b s) := by
  unfold index
  refine keep_bind (keep_pop s) fun i s => ?_
  split
  · exact True.intro
  · exact keep_push _ _
theorem keep_math (op : Int) (s : St) : Keep s (math op s) := by
  unfold math; split
  · refine keep_bind (keep_pop s) fun b s => keep_bind (keep_pop s) fun a s => ?_
    split
    · exact keep_push _ _
    · exact True.intro
  · exact True.intro
theorem keep_tick (mt : Int) (s : St) : Keep s (tick mt s) := by unfold tick; split <;> first | exact ⟨rfl, rfl, rfl⟩ | exact True.intro
theorem keep_enter (a b : Int) (s : St) : Keep s (enter a b s) := by unfold enter; split <;> first | (split <;> first | exact ⟨rfl, rfl, rfl⟩ | exact True.intro) | exact True.intro
theorem keep_next (s : St) : Keep s (next s) := ⟨rfl, rfl, rfl⟩
theorem keep_tell (n : Int) (s : St) : Keep s (tell n s) := by unfold tell; split <;> first | exact ⟨rfl, rfl, rfl⟩ | exact True.intro
theorem ite_keep {p : Prop} [Decidable p] {s : St} {x y : Res Unit} (hx : p → Keep s x) (hy : ¬ p → Keep s y) : Keep s (if p then x else y) := by
  by_cases h : p
  · rw [if_pos h]; exact hx h
  · rw [if_neg h]; exact hy h
theorem doI_keep (mt : Int) (i : Ins) (s : St) (h1 : ¬ i.op = 11) (h2 : ¬ i.op = 12) (h3 : ¬ i.op = 13) (h4 : ¬ i.op = 15) : Keep s (doI mt i s) := by
  unfold doI
  refine ite_keep (fun _ => keep_push _ _) fun _ => ite_keep (fun _ => keep_bind (keep_getL _ _ _) keep_push) fun _ => ite_keep (fun _ => keep_bind (keep_pop s) fun n s => keep_putLo _ _ _) fun _ => ite_keep (fun _ => keep_bind (keep_getL _ _ _) keep_push) fun _ => ite_keep (fun _ => keep_bind (keep_pop s) fun n s => keep_putDa _ _ _) fun _ => ite_keep (fun _ => keep_index _ _ _) fun _ => ite_keep (fun _ => keep_bind (keep_pop s) fun a s => keep_bind (keep_getL _ _ _) keep_push) fun _ => ite_keep (fun _ => keep_bind (keep_pop s) fun n s => keep_bind (keep_pop s) fun a s => keep_putDa _ _ _) fun _ => ite_keep (fun _ => keep_bind (keep_pop s) fun n s => keep_push _ _) fun _ => ite_keep (fun _ => keep_bind (keep_pop s) fun n s => keep_push _ _) fun _ => ite_keep (fun _ => keep_math _ _) fun _ => ite_keep (fun h => absurd h h1) fun _ => ite_keep (fun h => absurd h h2) fun _ => ite_keep (fun h => absurd h h3) fun _ => ite_keep (fun _ => keep_enter _ _ _) fun _ => ite_keep (fun h => absurd h h4) fun _ => ite_keep (fun _ => keep_tick _ _) fun _ => ite_keep (fun _ => keep_bind (keep_pop s) fun n s => ⟨rfl, rfl, rfl⟩) fun _ => ite_keep (fun _ => keep_bind (keep_next s) keep_push) fun _ => ite_keep (fun _ => keep_bind (keep_pop s) keep_tell) fun _ => ite_keep (fun _ => True.intro) fun _ => ⟨rfl, rfl, rfl⟩
theorem doI_jump (mt : Int) (i : Ins) (s : St) (h : i.op = 11) : doI mt i s = .ok () { s with pc := i.a } := by
  unfold doI; simp [h]
theorem doI_zero (mt : Int) (i : Ins) (s : St) (h : i.op = 12) : doI mt i s = (pop s).bind fun n s => .ok () (if n = 0 then { s with pc := i.a } else s) := by
  unfold doI; simp [h]
theorem doI_call (mt : Int) (i : Ins) (s : St) (h : i.op = 13) : doI mt i s = call mt i.a s := by
  unfold doI; simp [h]
theorem doI_ret (mt : Int) (i : Ins) (s : St) (h : i.op = 15) : doI mt i s = ret s := by
  unfold doI; simp [h]
theorem doI_push (mt : Int) (i : Ins) (s : St) (h : i.op = 1) : doI mt i s = push i.a s := by
  unfold doI; simp [h]
theorem doI_nop (mt : Int) (i : Ins) (s : St) (h : i.op = 21) : doI mt i s = .ok () s := by
  unfold doI; simp [h]
theorem doI_math (mt : Int) (i : Ins) (s : St) (h : i.op = 10) : doI mt i s = math i.a s := by
  unfold doI; simp [h]
theorem doI_not (mt : Int) (i : Ins) (s : St) (h : i.op = 9) : doI mt i s = (pop s).bind fun n s => push (truth (n == 0)) s := by
  unfold doI; simp [h]
theorem doI_truth (mt : Int) (i : Ins) (s : St) (h : i.op = 22) : doI mt i s = (pop s).bind fun n s => push (truth (n != 0)) s := by
  unfold doI; simp [h]
theorem doI_drop (mt : Int) (i : Ins) (s : St) (h : i.op = 17) : doI mt i s = (pop s).bind fun _ s => .ok () s := by
  unfold doI; simp [h]

/- places that calls come back to -/
def Backs (P : Int → Prop) (s : St) : Prop := P s.bk ∧ ∀ f ∈ s.gs, P f.2
/- where a step goes to -/
theorem doI_pc (mt : Int) (i : Ins) (s s' : St) (u : Unit) (h : doI mt i s = .ok u s') (P : Int → Prop) (hs : P s.pc) (hj : i.op = 11 ∨ i.op = 12 ∨ i.op = 13 → P i.a) (hb : Backs P s) : P s'.pc ∧ Backs P s' := by
  by_cases h1 : i.op = 11
  · rw [doI_jump _ _ _ h1] at h
    cases h
    exact ⟨hj (Or.inl h1), hb⟩
  · by_cases h2 : i.op = 12
    · rw [doI_zero _ _ _ h2] at h
      have hk := keep_pop s
      cases hp : pop s with
      | stop _ => rw [hp] at h; cases h
      | ok n s1 =>
        rw [hp] at h hk
        obtain ⟨k1, k2, k3⟩ := hk
        simp only [Res.bind] at h
        cases h
        split
        · exact ⟨hj (Or.inr (Or.inl h2)), by unfold Backs; show P s1.bk ∧ ∀ f ∈ s1.gs, P f.2; rw [k2, k3]; exact hb⟩
        · exact ⟨by rw [k1]; exact hs, by unfold Backs; rw [k2, k3]; exact hb⟩
    · by_cases h3 : i.op = 13
      · rw [doI_call _ _ _ h3] at h
        unfold call at h
        have hk := keep_tick mt s
        cases hp : tick mt s with
        | stop _ => rw [hp] at h; cases h
        | ok n s1 =>
          rw [hp] at h hk
          obtain ⟨k1, k2, k3⟩ := hk
          simp only [Res.bind] at h
          split at h
          · cases h
          · cases h
            refine ⟨hj (Or.inr (Or.inr h3)), ?_⟩
            unfold Backs
            simp only
            refine ⟨by rw [k1]; exact hs, fun f hf => ?_⟩
            rcases List.mem_append.1 hf with h' | h'
            · rw [k2] at h'; exact hb.2 f h'
            · rw [List.mem_singleton.1 h']; show P s1.bk; rw [k3]; exact hb.1
      · by_cases h4 : i.op = 15
        · rw [doI_ret _ _ _ h4] at h
          unfold ret at h
          split at h
          · cases h
          · rename_i f hf
            cases h
            refine ⟨hb.1, ?_, ?_⟩
            · exact hb.2 f (List.mem_of_getLast? hf)
            · exact fun g hg => hb.2 g ((List.dropLast_sublist _).subset hg)
        · have hk := doI_keep mt i s h1 h2 h3 h4
          rw [h] at hk
          obtain ⟨k1, k2, k3⟩ := hk
          exact ⟨by rw [k1]; exact hs, by unfold Backs; rw [k2, k3]; exact hb⟩

/- the count of steps -/
def St.at (s : St) (j : Int) : St := { s with steps := j }
def Res.at {α : Type} (j : Int) : Res α → Res α
  | .ok a s => .ok a (s.at j)
  | .stop s => .stop (s.at j)
def Comm {α : Type} (f : St → Res α) : Prop := ∀ s j, f (s.at j) = (f s).at j
theorem comm_bind {α β : Type} {f : St → Res α} {g : α → St → Res β} (hf : Comm f) (hg : ∀ a, Comm (g a)) : Comm (fun s => (f s).bind g) := by
  intro s j
  show (f (s.at j)).bind g = ((f s).bind g).at j
  rw [hf s j]
  cases f s with
  | stop s' => rfl
  | ok a s' => exact hg a s' j
theorem comm_halt {α : Type} (e : Int) : Comm (fun s => (halt e s : Res α)) := fun _ _ => rfl
theorem comm_push (n : Int) : Comm (push n) := by
  intro s j; unfold push; show (if s.stack.length < 2048 then _ else _) = _; split <;> rfl
theorem comm_pop : Comm pop := by
  intro s j; unfold pop; show (if 0 < s.stack.length then _ else _) = _; split <;> rfl
theorem comm_getL (l : List Int) (a : Int) : Comm (getL l a) := by
  intro s j; unfold getL; split <;> rfl
theorem comm_putLo (a n : Int) : Comm (putLo a n) := by
  intro s j; unfold putLo; show (if inB s.lo a = true then _ else _) = _; split <;> rfl
theorem comm_putDa (a n : Int) : Comm (putDa a n) := by
  intro s j; unfold putDa; show (if inB s.data a = true then _ else _) = _; split <;> rfl
theorem comm_ite {α : Type} {p : Prop} [Decidable p] {f g : St → Res α} (hf : Comm f) (hg : Comm g) : Comm (fun s => if p then f s else g s) := by
  intro s j; show (if p then f (s.at j) else g (s.at j)) = _; split
  · rw [hf s j]
  · rw [hg s j]
theorem comm_index (a b : Int) : Comm (index a b) := comm_bind comm_pop fun _ => comm_ite (comm_halt 2) (comm_push _)
theorem comm_math (op : Int) : Comm (math op) := by
  intro s j
  unfold math
  split
  · refine comm_bind comm_pop (fun b => comm_bind comm_pop fun a => ?_) s j
    intro s j
    show (match reck op a b with
    | some n => push n (s.at j)
    | none => halt 1 (s.at j)) = (match reck op a b with
    | some n => push n s
    | none => halt 1 s).at j
    cases reck op a b with
    | none => rfl
    | some n => exact comm_push n s j
  · rfl
theorem comm_tick (mt : Int) : Comm (tick mt) := by
  intro s j; unfold tick; show (if s.ticks = mt then _ else _) = _; split <;> rfl
theorem comm_call (mt to : Int) : Comm (call mt to) := by
  refine comm_bind (comm_tick mt) fun _ => ?_
  intro s j
  show (if 24 < s.gs.length + 1 then _ else _) = (if 24 < s.gs.length + 1 then _ else _ : Res Unit).at j
  split <;> rfl
theorem comm_enter (a b : Int) : Comm (enter a b) := by
  intro s j; unfold enter; split
  · show (if a ≤ s.stack.length then _ else _) = _; split <;> rfl
  · rfl
theorem comm_ret : Comm ret := by
  intro s j; unfold ret
  show (match s.gs.getLast? with
    | none => _
    | some f => _) = _
  cases s.gs.getLast? <;> rfl
theorem comm_next : Comm next := fun _ _ => rfl
theorem comm_tell (n : Int) : Comm (tell n) := by
  intro s j; unfold tell; show (if s.out.length = 200 then _ else _) = _; split <;> rfl
theorem comm_do (mt : Int) (i : Ins) : Comm (doI mt i) := by
  have e2 : Comm (fun s => (getL s.lo i.a s).bind push) := by
    intro s j; show (getL s.lo i.a (s.at j)).bind push = ((getL s.lo i.a s).bind push).at j; rw [comm_getL]
    cases getL s.lo i.a s with
    | stop s' => rfl
    | ok a s' => exact comm_push a s' j
  have e4 : Comm (fun s => (getL s.data i.a s).bind push) := by
    intro s j; show (getL s.data i.a (s.at j)).bind push = ((getL s.data i.a s).bind push).at j; rw [comm_getL]
    cases getL s.data i.a s with
    | stop s' => rfl
    | ok a s' => exact comm_push a s' j
  have e7 : Comm (fun s => (pop s).bind fun a s => (getL s.data a s).bind push) := comm_bind comm_pop fun a => by
    intro s j; show (getL s.data a (s.at j)).bind push = ((getL s.data a s).bind push).at j; rw [comm_getL]
    cases getL s.data a s with
    | stop s' => rfl
    | ok a s' => exact comm_push a s' j
  have e12 : Comm (fun s => (pop s).bind fun n s => .ok () (if n = 0 then { s with pc := i.a } else s)) := comm_bind comm_pop fun n => by
    intro s j; show Res.ok () _ = Res.ok () _; split <;> rfl
  unfold doI
  exact comm_ite (comm_push _) <| comm_ite e2 <| comm_ite (comm_bind comm_pop fun n => comm_putLo _ _) <| comm_ite e4 <| comm_ite (comm_bind comm_pop fun n => comm_putDa _ _) <| comm_ite (comm_index _ _) <| comm_ite e7 <| comm_ite (comm_bind comm_pop fun n => comm_bind comm_pop fun a => comm_putDa _ _) <| comm_ite (comm_bind comm_pop fun n => comm_push _) <| comm_ite (comm_bind comm_pop fun n => comm_push _) <| comm_ite (comm_math _) <| comm_ite (fun _ _ => rfl) <| comm_ite e12 <| comm_ite (comm_call _ _) <| comm_ite (comm_enter _ _) <| comm_ite comm_ret <| comm_ite (comm_tick _) <| comm_ite (comm_bind comm_pop fun n => fun _ _ => rfl) <| comm_ite (comm_bind comm_next comm_push) <| comm_ite (comm_bind comm_pop comm_tell) <| comm_ite (comm_halt 0) (fun _ _ => rfl)

end Mc
end Go.Proofs.Ytpahhhhfhnpmjaa
