/-
  What an instruction leaves as it was: where to go on, the calls; and that the count of steps is only counted.
-/
import Derived.Test.YtpahhhhfhnpmjaaPa
namespace Go.Proofs.Ytpahhhhfhnpmjaa
namespace Mc
open Go.RowKit

def Keep {α : Type} (s : St) : Res α → Prop
  | .ok _ s' => s'.pc = s.pc ∧ s'.gs = s.gs ∧ s'.bk = s.bk
  | .stop _ => True
theorem keep_bind {α β : Type} {s : St} {r : Res α} {f : α → St → Res β} (h : Keep s r) (hf : ∀ a s', Keep s' (f a s')) : Keep s (r.bind f) := by
  cases r with
  | stop s' => exact True.intro
  | ok a s' =>
    have := hf a s'
    show Keep s (f a s')
    cases hr : f a s' with
    | stop _ => exact True.intro
    | ok b s2 =>
      rw [hr] at this
      exact ⟨this.1.trans h.1, this.2.1.trans h.2.1, this.2.2.trans h.2.2⟩
theorem keep_push (n : Int) (s : St) : Keep s (push n s) := by unfold push; split <;> first | exact ⟨rfl, rfl, rfl⟩ | exact True.intro
theorem keep_pop (s : St) : Keep s (pop s) := by unfold pop; split <;> first | exact ⟨rfl, rfl, rfl⟩ | exact True.intro
theorem keep_getL (l : List Int) (a : Int) (s : St) : Keep s (getL l a s) := by unfold getL; split <;> first | exact ⟨rfl, rfl, rfl⟩ | exact True.intro
theorem keep_putLo (a n : Int) (s : St) : Keep s (putLo a n s) := by unfold putLo; split <;> first | exact ⟨rfl, rfl, rfl⟩ | exact True.intro
theorem keep_putDa (a n : Int) (s : St) : Keep s (putDa a n s) := by unfold putDa; split <;> first | exact ⟨rfl, rfl, rfl⟩ | exact True.intro
theorem keep_index (a b : Int) (s : St) : Keep s (index a b s) := by
  unfold index
  refine keep_bind (keep_pop s) fun i s => ?_
  split
  · exact True.intro
  · exact keep_push _ _
theorem keep_math (op : Int) (s : St) : Keep s (math op s) := by
  unfold math; split
  · refine keep_bind (keep_pop s) fun b s => keep_bind (keep_pop s) fun a s => ?_
    split
    · exact keep_push _ _
    · exact True.intro
  · exact True.intro
theorem keep_tick (mt : Int) (s : St) : Keep s (tick mt s) := by unfold tick; split <;> first | exact ⟨rfl, rfl, rfl⟩ | exact True.intro
theorem keep_enter (a b : Int) (s : St) : Keep s (enter a b s) := by unfold enter; split <;> first | (split <;> first | exact ⟨rfl, rfl, rfl⟩ | exact True.intro) | exact True.intro
theorem keep_next (s : St) : Keep s (next s) := ⟨rfl, rfl, rfl⟩
theorem keep_tell (n : Int) (s : St) : Keep s (tell n s) := by unfold tell; split <;> first | exact ⟨rfl, rfl, rfl⟩ | exact True.intro
theorem ite_keep {p : Prop} [Decidable p] {s : St} {x y : Res Unit} (hx : p → Keep s x) (hy : ¬ p → Keep s y) : Keep s (if p then x else y) := by
  by_cases h : p
  · rw [if_pos h]; exact hx h
  · rw [if_neg h]; exact hy h
theorem doI_keep (mt : Int) (i : Ins) (s : St) (h1 : ¬ i.op = 11) (h2 : ¬ i.op = 12) (h3 : ¬ i.op = 13) (h4 : ¬ i.op = 15) : Keep s (doI mt i s) := by
  unfold doI
  refine ite_keep (fun _ => keep_push _ _) fun _ => ite_keep (fun _ => keep_bind (keep_getL _ _ _) keep_push) fun _ => ite_keep (fun _ => keep_bind (keep_pop s) fun n s => keep_putLo _ _ _) fun _ => ite_keep (fun _ => keep_bind (keep_getL _ _ _) keep_push) fun _ => ite_keep (fun _ => keep_bind (keep_pop s) fun n s => keep_putDa _ _ _) fun _ => ite_keep (fun _ => keep_index _ _ _) fun _ => ite_keep (fun _ => keep_bind (keep_pop s) fun a s => keep_bind (keep_getL _ _ _) keep_push) fun _ => ite_keep (fun _ => keep_bind (keep_pop s) fun n s => keep_bind (keep_pop s) fun a s => keep_putDa _ _ _) fun _ => ite_keep (fun _ => keep_bind (keep_pop s) fun n s => keep_push _ _) fun _ => ite_keep (fun _ => keep_bind (keep_pop s) fun n s => keep_push _ _) fun _ => ite_keep (fun _ => keep_math _ _) fun _ => ite_keep (fun h => absurd h h1) fun _ => ite_keep (fun h => absurd h h2) fun _ => ite_keep (fun h => absurd h h3) fun _ => ite_keep (fun _ => keep_enter _ _ _) fun _ => ite_keep (fun h => absurd h h4) fun _ => ite_keep (fun _ => keep_tick _ _) fun _ => ite_keep (fun _ => keep_bind (keep_pop s) fun n s => ⟨rfl, rfl, rfl⟩) fun _ => ite_keep (fun _ => keep_bind (keep_next s) keep_push) fun _ => ite_keep (fun _ => keep_bind (keep_pop s) keep_tell) fun _ => ite_keep (fun _ => True.intro) fun _ => ⟨rfl, rfl, rfl⟩
theorem doI_jump (mt : Int) (i : Ins) (s : St) (h : i.op = 11) : doI mt i s = .ok () { s with pc := i.a } := by
  unfold doI; simp [h]
theorem doI_zero (mt : Int) (i : Ins) (s : St) (h : i.op = 12) : doI mt i s = (pop s).bind fun n s => .ok () (if n = 0 then { s with pc := i.a } else s) := by
  unfold doI; simp [h]
theorem doI_call (mt : Int) (i : Ins) (s : St) (h : i.op = 13) : doI mt i s = call mt i.a s := by
  unfold doI; simp [h]
theorem doI_ret (mt : Int) (i : Ins) (s : St) (h : i.op = 15) : doI mt i s = ret s := by
  unfold doI; simp [h]
theorem doI_push (mt : Int) (i : Ins) (s : St) (h : i.op = 1) : doI mt i s = push i.a s := by
  unfold doI; simp [h]
theorem doI_nop (mt : Int) (i : Ins) (s : St) (h : i.op = 21) : doI mt i s = .ok () s := by
  unfold doI; simp [h]
theorem doI_math (mt : Int) (i : Ins) (s : St) (h : i.op = 10) : doI mt i s = math i.a s := by
  unfold doI; simp [h]
theorem doI_not (mt : Int) (i : Ins) (s : St) (h : i.op = 9) : doI mt i s = (pop s).bind fun n s => push (truth (n == 0)) s := by
  unfold doI; simp [h]
theorem doI_truth (mt : Int) (i : Ins) (s : St) (h : i.op = 22) : doI mt i s = (pop s).bind fun n s => push (truth (n != 0)) s := by
  unfold doI; simp [h]
theorem doI_drop (mt : Int) (i : Ins) (s : St) (h : i.op = 17) : doI mt i s = (pop s).bind fun _ s => .ok () s := by
  unfold doI; simp [h]

/- places that calls come back to -/
def Backs (P : Int → Prop) (s : St) : Prop := P s.bk ∧ ∀ f ∈ s.gs, P f.2
/- where a step goes to -/
theorem doI_pc (mt : Int) (i : Ins) (s s' : St) (u : Unit) (h : doI mt i s = .ok u s') (P : Int → Prop) (hs : P s.pc) (hj : i.op = 11 ∨ i.op = 12 ∨ i.op = 13 → P i.a) (hb : Backs P s) : P s'.pc ∧ Backs P s' := by
  by_cases h1 : i.op = 11
  · rw [doI_jump _ _ _ h1] at h
    cases h
    exact ⟨hj (Or.inl h1), hb⟩
  · by_cases h2 : i.op = 12
    · rw [doI_zero _ _ _ h2] at h
      have hk := keep_pop s
      cases hp : pop s with
      | stop _ => rw [hp] at h; cases h
      | ok n s1 =>
        rw [hp] at h hk
        obtain ⟨k1, k2, k3⟩ := hk
        simp only [Res.bind] at h
        cases h
        split
        · exact ⟨hj (Or.inr (Or.inl h2)), by unfold Backs; show P s1.bk ∧ ∀ f ∈ s1.gs, P f.2; rw [k2, k3]; exact hb⟩
        · exact ⟨by rw [k1]; exact hs, by unfold Backs; rw [k2, k3]; exact hb⟩
    · by_cases h3 : i.op = 13
      · rw [doI_call _ _ _ h3] at h
        unfold call at h
        have hk := keep_tick mt s
        cases hp : tick mt s with
        | stop _ => rw [hp] at h; cases h
        | ok n s1 =>
          rw [hp] at h hk
          obtain ⟨k1, k2, k3⟩ := hk
          simp only [Res.bind] at h
          split at h
          · cases h
          · cases h
            refine ⟨hj (Or.inr (Or.inr h3)), ?_⟩
            unfold Backs
            simp only
            refine ⟨by rw [k1]; exact hs, fun f hf => ?_⟩
            rcases List.mem_append.1 hf with h' | h'
            · rw [k2] at h'; exact hb.2 f h'
            · rw [List.mem_singleton.1 h']; show P s1.bk; rw [k3]; exact hb.1
      · by_cases h4 : i.op = 15
        · rw [doI_ret _ _ _ h4] at h
          unfold ret at h
          split at h
          · cases h
          · rename_i f hf
            cases h
            refine ⟨hb.1, ?_, ?_⟩
            · exact hb.2 f (List.mem_of_getLast? hf)
            · exact fun g hg => hb.2 g ((List.dropLast_sublist _).subset hg)
        · have hk := doI_keep mt i s h1 h2 h3 h4
          rw [h] at hk
          obtain ⟨k1, k2, k3⟩ := hk
          exact ⟨by rw [k1]; exact hs, by unfold Backs; rw [k2, k3]; exact hb⟩

/- the count of steps -/
def St.at (s : St) (j : Int) : St := { s with steps := j }
def Res.at {α : Type} (j : Int) : Res α → Res α
  | .ok a s => .ok a (s.at j)
  | .stop s => .stop (s.at j)
def Comm {α : Type} (f : St → Res α) : Prop := ∀ s j, f (s.at j) = (f s).at j
theorem comm_bind {α β : Type} {f : St → Res α} {g : α → St → Res β} (hf : Comm f) (hg : ∀ a, Comm (g a)) : Comm (fun s => (f s).bind g) := by
  intro s j
  show (f (s.at j)).bind g = ((f s).bind g).at j
  rw [hf s j]
  cases f s with
  | stop s' => rfl
  | ok a s' => exact hg a s' j
theorem comm_halt {α : Type} (e : Int) : Comm (fun s => (halt e s : Res α)) := fun _ _ => rfl
theorem comm_push (n : Int) : Comm (push n) := by
  intro s j; unfold push; show (if s.stack.length < 2048 then _ else _) = _; split <;> rfl
theorem comm_pop : Comm pop := by
  intro s j; unfold pop; show (if 0 < s.stack.length then _ else _) = _; split <;> rfl
theorem comm_getL (l : List Int) (a : Int) : Comm (getL l a) := by
  intro s j; unfold getL; split <;> rfl
theorem comm_putLo (a n : Int) : Comm (putLo a n) := by
  intro s j; unfold putLo; show (if inB s.lo a = true then _ else _) = _; split <;> rfl
theorem comm_putDa (a n : Int) : Comm (putDa a n) := by
  intro s j; unfold putDa; show (if inB s.data a = true then _ else _) = _; split <;> rfl
theorem comm_ite {α : Type} {p : Prop} [Decidable p] {f g : St → Res α} (hf : Comm f) (hg : Comm g) : Comm (fun s => if p then f s else g s) := by
  intro s j; show (if p then f (s.at j) else g (s.at j)) = _; split
  · rw [hf s j]
  · rw [hg s j]
theorem comm_index (a b : Int) : Comm (index a b) := comm_bind comm_pop fun _ => comm_ite (comm_halt 2) (comm_push _)
theorem comm_math (op : Int) : Comm (math op) := by
  intro s j
  unfold math
  split
  · refine comm_bind comm_pop (fun b => comm_bind comm_pop fun a => ?_) s j
    intro s j
    show (match reck op a b with
    | some n => push n (s.at j)
    | none => halt 1 (s.at j)) = (match reck op a b with
    | some n => push n s
    | none => halt 1 s).at j
    cases reck op a b with
    | none => rfl
    | some n => exact comm_push n s j
  · rfl
theorem comm_tick (mt : Int) : Comm (tick mt) := by
  intro s j; unfold tick; show (if s.ticks = mt then _ else _) = _; split <;> rfl
theorem comm_call (mt to : Int) : Comm (call mt to) := by
  refine comm_bind (comm_tick mt) fun _ => ?_
  intro s j
  show (if 24 < s.gs.length + 1 then _ else _) = (if 24 < s.gs.length + 1 then _ else _ : Res Unit).at j
  split <;> rfl
theorem comm_enter (a b : Int) : Comm (enter a b) := by
  intro s j; unfold enter; split
  · show (if a ≤ s.stack.length then _ else _) = _; split <;> rfl
  · rfl
theorem comm_ret : Comm ret := by
  intro s j; unfold ret
  show (match s.gs.getLast? with
    | none => _
    | some f => _) = _
  cases s.gs.getLast? <;> rfl
theorem comm_next : Comm next := fun _ _ => rfl
theorem comm_tell (n : Int) : Comm (tell n) := by
  intro s j; unfold tell; show (if s.out.length = 200 then _ else _) = _; split <;> rfl
theorem comm_do (mt : Int) (i : Ins) : Comm (doI mt i) := by
  have e2 : Comm (fun s => (getL s.lo i.a s).bind push) := by
    intro s j; show (getL s.lo i.a (s.at j)).bind push = ((getL s.lo i.a s).bind push).at j; rw [comm_getL]
    cases getL s.lo i.a s with
    | stop s' => rfl
    | ok a s' => exact comm_push a s' j
  have e4 : Comm (fun s => (getL s.data i.a s).bind push) := by
    intro s j; show (getL s.data i.a (s.at j)).bind push = ((getL s.data i.a s).bind push).at j; rw [comm_getL]
    cases getL s.data i.a s with
    | stop s' => rfl
    | ok a s' => exact comm_push a s' j
  have e7 : Comm (fun s => (pop s).bind fun a s => (getL s.data a s).bind push) := comm_bind comm_pop fun a => by
    intro s j; show (getL s.data a (s.at j)).bind push = ((getL s.data a s).bind push).at j; rw [comm_getL]
    cases getL s.data a s with
    | stop s' => rfl
    | ok a s' => exact comm_push a s' j
  have e12 : Comm (fun s => (pop s).bind fun n s => .ok () (if n = 0 then { s with pc := i.a } else s)) := comm_bind comm_pop fun n => by
    intro s j; show Res.ok () _ = Res.ok () _; split <;> rfl
  unfold doI
  exact comm_ite (comm_push _) <| comm_ite e2 <| comm_ite (comm_bind comm_pop fun n => comm_putLo _ _) <| comm_ite e4 <| comm_ite (comm_bind comm_pop fun n => comm_putDa _ _) <| comm_ite (comm_index _ _) <| comm_ite e7 <| comm_ite (comm_bind comm_pop fun n => comm_bind comm_pop fun a => comm_putDa _ _) <| comm_ite (comm_bind comm_pop fun n => comm_push _) <| comm_ite (comm_bind comm_pop fun n => comm_push _) <| comm_ite (comm_math _) <| comm_ite (fun _ _ => rfl) <| comm_ite e12 <| comm_ite (comm_call _ _) <| comm_ite (comm_enter _ _) <| comm_ite comm_ret <| comm_ite (comm_tick _) <| comm_ite (comm_bind comm_pop fun n => fun _ _ => rfl) <| comm_ite (comm_bind comm_next comm_push) <| comm_ite (comm_bind comm_pop comm_tell) <| comm_ite (comm_halt 0) (fun _ _ => rfl)

end Mc
end Go.Proofs.Ytpahhhhfhnpmjaa

namespace Go.Proofs.Ytpahhhhfhnpmjaa
namespace Mc
open Go.RowKit

/- what is put off at a place -/
structure Puts (c c' : List Ins) (pend : Int → List Int) : Prop where
  len : c'.length = c.length
  each : ∀ x : Nat, x < c.length →
    (c.getD x dI = c'.getD x dI ∧ pend x = [] ∧ pend ((x : Int) + 1) = [] ∧ ((c.getD x dI).op = 11 ∨ (c.getD x dI).op = 12 ∨ (c.getD x dI).op = 13 → pend (c.getD x dI).a = [])) ∨
    ((c.getD x dI).op = 1 ∧ c'.getD x dI = nopI ∧ pend ((x : Int) + 1) = pend x ++ [(c.getD x dI).a]) ∨
    (pend x ≠ [] ∧ pend ((x : Int) + 1) = [] ∧ ((c'.getD x dI).op = 11 ∨ (c'.getD x dI).op = 12 ∨ (c'.getD x dI).op = 13 → pend (c'.getD x dI).a = []) ∧
      ∀ mt (s : St), (s.stack ++ pend x).length ≤ 2048 → doI mt (c.getD x dI) { s with stack := s.stack ++ pend x } = doI mt (c'.getD x dI) s)
structure PRel (pend : Int → List Int) (s s' : St) : Prop where
  eq : s = { s' with stack := s'.stack ++ pend s'.pc }
  len : pend s'.pc ≠ [] → (s'.stack ++ pend s'.pc).length ≤ 2048
  backs : Backs (fun b => pend b = []) s'
theorem PRel.refl {pend : Int → List Int} {s : St} (h : pend s.pc = []) (hb : Backs (fun b => pend b = []) s) : PRel pend s s :=
  ⟨by rw [h, List.append_nil], fun h' => absurd h h', hb⟩

theorem core_in (c : List Ins) (mt : Int) (s : St) (x : Nat) (hx : x < c.length) (hp : s.pc = x) : core c mt s = doI mt (c.getD x dI) { s with steps := s.steps + 1, pc := (x : Int) + 1 } := by
  unfold core
  rw [if_pos (by omega)]
  rw [hp]
  rfl
theorem core_out (c : List Ins) (mt : Int) (s : St) (h : ¬ (0 ≤ s.pc ∧ s.pc < c.length)) : core c mt s = halt 6 { s with steps := s.steps + 1 } := if_neg h

theorem run_puts {c c' : List Ins} {pend : Int → List Int} (hP : Puts c c' pend) (mt ms : Int) : ∀ (f : Nat) (s s' : St), PRel pend s s' → s.steps ≤ ms → (ms - s.steps).toNat < f →
    (run ⟨c, mt, ms⟩ f s).en ≠ 6 → (run ⟨c, mt, ms⟩ f s).en ≠ 7 → run ⟨c', mt, ms⟩ f s' = run ⟨c, mt, ms⟩ f s
  | 0, _, _, _, _, h, _, _ => by omega
  | f + 1, s, s', hR, hs, hf, h6, h7 => by
    have hst : s'.steps = s.steps := by rw [hR.eq]
    have hpc : s'.pc = s.pc := by rw [hR.eq]
    rw [run_succ] at h6 h7 ⊢
    rw [run_succ]
    by_cases hm : s.steps = ms
    · have e : step ⟨c, mt, ms⟩ s = halt 7 s := if_pos hm
      rw [e] at h7
      exact absurd rfl h7
    · have e : step ⟨c, mt, ms⟩ s = core c mt s := if_neg hm
      have e' : step ⟨c', mt, ms⟩ s' = core c' mt s' := if_neg (by rw [hst]; exact hm)
      rw [e] at h6 h7 ⊢
      rw [e']
      by_cases hin : 0 ≤ s.pc ∧ s.pc < c.length
      · obtain ⟨x, hx⟩ := Int.eq_ofNat_of_zero_le hin.1
        have hxl : x < c.length := by omega
        have hc := core_in c mt s x hxl hx
        have hc' := core_in c' mt s' x (by rw [hP.len]; exact hxl) (by rw [hpc]; exact hx)
        have hpx : s'.pc = x := by rw [hpc]; exact hx
        have key : (core c mt s = core c' mt s') → (pend ((x : Int) + 1) = []) → ((c'.getD x dI).op = 11 ∨ (c'.getD x dI).op = 12 ∨ (c'.getD x dI).op = 13 → pend (c'.getD x dI).a = []) →
            (match core c' mt s' with
              | .stop s => s
              | .ok _ s => run ⟨c', mt, ms⟩ f s) = (match core c mt s with
              | .stop s => s
              | .ok _ s => run ⟨c, mt, ms⟩ f s) := by
          intro h1 h2 h3
          rw [h1] at h6 h7 ⊢
          cases hr : core c' mt s' with
          | stop F => rfl
          | ok u s1 =>
            rw [hr] at h6 h7
            simp only at h6 h7 ⊢
            have hq := hr
            rw [hc'] at hq
            obtain ⟨g1, g2⟩ := doI_pc mt _ _ s1 u hq (fun b => pend b = []) h2 h3 hR.backs
            have hsteps : s1.steps = s.steps + 1 := by
              have := (core_steps c' mt s').1
              rw [hr] at this
              rw [← hst]
              exact this
            exact run_puts hP mt ms f s1 s1 (PRel.refl g1 g2) (by omega) (by omega) h6 h7
        rcases hP.each x hxl with ⟨k1, k2, k3, k4⟩ | ⟨k1, k2, k3⟩ | ⟨k0, k1, k2, k3⟩
        · have hss : s = s' := by have := hR.eq; rw [show pend s'.pc = [] from by rw [hpx]; exact k2, List.append_nil] at this; exact this
          refine key ?_ k3 (by rw [← k1]; exact k4)
          rw [hc, hc', hss, k1]
        · rw [hc, doI_push _ _ _ k1] at h6 h7 ⊢
          rw [hc', doI_nop _ _ _ (by rw [k2]; rfl)]
          unfold push at h6 h7 ⊢
          by_cases hl : s.stack.length < 2048
          · have hl' : ({ s with steps := s.steps + 1, pc := (x : Int) + 1 } : St).stack.length < 2048 := hl
            rw [if_pos hl'] at h6 h7 ⊢
            simp only at h6 h7 ⊢
            have hstk : s.stack = s'.stack ++ pend x := by have := hR.eq; rw [hpx] at this; rw [this]
            refine run_puts hP mt ms f _ _ ⟨?_, ?_, hR.backs⟩ (by show s.steps + 1 ≤ ms; omega) (by show (ms - (s.steps + 1)).toNat < f; omega) h6 h7
            · have := hR.eq
              simp only
              rw [k3, hst, hstk, ← List.append_assoc, this]
            · intro _
              simp only
              rw [k3, ← List.append_assoc, ← hstk, List.length_append]
              simp only [List.length_cons, List.length_nil]
              omega
          · have hl' : ¬ ({ s with steps := s.steps + 1, pc := (x : Int) + 1 } : St).stack.length < 2048 := hl
            rw [if_neg hl'] at h6
            exact absurd rfl h6
        · refine key ?_ k1 k2
          rw [hc, hc']
          have hl := hR.len (by rw [hpx]; exact k0)
          rw [hpx] at hl
          have h4 := k3 mt { s' with steps := s'.steps + 1, pc := (x : Int) + 1 } hl
          rw [← h4]
          have := hR.eq
          rw [hpx] at this
          rw [this]
      · rw [core_out c mt s hin] at h6
        exact absurd rfl h6

end Mc
end Go.Proofs.Ytpahhhhfhnpmjaa

namespace Go.Proofs.Ytpahhhhfhnpmjaa
namespace Mc
open Go.RowKit

structure Start (s : St) : Prop where
  pc : s.pc = 0
  bk : s.bk = 0
  gs : s.gs = []
  steps : s.steps = 0
def SameRun (c c' : List Ins) : Prop := ∀ (mt ms : Int) (f : Nat) (s : St), Start s → 0 ≤ ms → ms.toNat < f → (run ⟨c, mt, ms⟩ f s).en ≠ 6 → (run ⟨c, mt, ms⟩ f s).en ≠ 7 → run ⟨c', mt, ms⟩ f s = run ⟨c, mt, ms⟩ f s
theorem SameRun.refl (c : List Ins) : SameRun c c := fun _ _ _ _ _ _ _ _ _ => rfl
theorem SameRun.trans {a b c : List Ins} (h : SameRun a b) (k : SameRun b c) : SameRun a c := fun mt ms f s hs h0 hf h6 h7 => by
  have e := h mt ms f s hs h0 hf h6 h7
  rw [← e] at h6 h7
  rw [k mt ms f s hs h0 hf h6 h7, e]
theorem Puts.same {c c' : List Ins} {pend : Int → List Int} (h : Puts c c' pend) (h0 : pend 0 = []) : SameRun c c' := fun mt ms f s hs hm hf h6 h7 =>
  run_puts h mt ms f s s (PRel.refl (by rw [hs.pc]; exact h0) ⟨by rw [hs.bk]; exact h0, by rw [hs.gs]; intro f hf; cases hf⟩) (by rw [hs.steps]; exact hm) (by rw [hs.steps]; omega) h6 h7

theorem bare_of {c : List Ins} {m : List Bool} {i : Nat} {op : Int} (h : bareB c m i op = true) : i < c.length ∧ (c.getD i dI).op = op ∧ m.getD i true = false := by
  unfold bareB at h
  simp only [Bool.and_eq_true, decide_eq_true_eq, Bool.not_eq_true'] at h
  exact ⟨h.1.1, h.1.2, h.2⟩

/- two of them -/
theorem lay2_puts {c : List Ins} {m : List Bool} {i : Nat} {y : Ins} {op : Int} (hM : Marked c m) (hi : i < c.length) (h1 : (c.getD i dI).op = 1) (hb : bareB c m (i + 1) op = true)
    (hy : (y.op = 11 ∨ y.op = 12 ∨ y.op = 13) → op = 12 ∧ y.a = (c.getD (i + 1) dI).a)
    (hd : ∀ mt (s : St), s.stack.length < 2048 → doI mt (c.getD (i + 1) dI) { s with stack := s.stack ++ [(c.getD i dI).a] } = doI mt y s) :
    Puts c (lay2 c i y) (fun k => if k = (i : Int) + 1 then [(c.getD i dI).a] else []) := by
  obtain ⟨b1, b2, b3⟩ := bare_of hb
  have far : ∀ t : Int, (∀ j : Nat, (j : Int) = t → m.getD j true = true) → (if t = (i : Int) + 1 then [(c.getD i dI).a] else []) = [] := fun t ht => by
    rw [if_neg (fun e => by have := ht (i + 1) (by omega); rw [b3] at this; cases this)]
  refine ⟨by unfold lay2; simp, fun x hx => ?_⟩
  unfold lay2
  rw [getD_set, getD_set]
  simp only [List.length_set]
  by_cases e0 : x = i
  · subst e0
    refine Or.inr (Or.inl ⟨h1, ?_, ?_⟩)
    · rw [if_neg (by omega), if_pos ⟨rfl, hx⟩]
    · rw [if_pos rfl, if_neg (by omega)]; rfl
  · by_cases e1 : x = i + 1
    · subst e1
      rw [if_pos ⟨rfl, b1⟩]
      refine Or.inr (Or.inr ⟨?_, ?_, ?_, ?_⟩)
      · rw [if_pos (by simp)]; simp
      · rw [if_neg (by omega)]
      · intro h
        obtain ⟨o1, o2⟩ := hy h
        rw [o2]
        exact far _ (hM.goes (i + 1) b1 (Or.inr (Or.inl (b2.trans o1))))
      · intro mt s hl
        rw [if_pos (by simp)] at hl ⊢
        simp only [List.length_append, List.length_cons, List.length_nil] at hl
        exact hd mt s (by omega)
    · refine Or.inl ⟨?_, ?_, ?_, ?_⟩
      · rw [if_neg (by omega), if_neg (by omega)]
      · rw [if_neg (by omega)]
      · rw [if_neg (by omega)]
      · exact fun h => far _ (hM.goes x hx h)
theorem lay2_marked {c : List Ins} {m : List Bool} {i : Nat} {y : Ins} {op : Int} (hM : Marked c m) (hb : bareB c m (i + 1) op = true)
    (hy : (y.op = 11 ∨ y.op = 12 ∨ y.op = 13) → op = 12 ∧ y.a = (c.getD (i + 1) dI).a) (hy13 : y.op ≠ 13) : Marked (lay2 c i y) m := by
  obtain ⟨b1, b2, b3⟩ := bare_of hb
  constructor
  · intro x hx hop j hj
    unfold lay2 at hx hop hj
    rw [getD_set, getD_set] at hop hj
    simp only [List.length_set] at hx hop hj
    by_cases e1 : i + 1 = x
    · rw [if_pos ⟨e1, b1⟩] at hop hj
      obtain ⟨o1, o2⟩ := hy hop
      exact hM.goes (i + 1) b1 (Or.inr (Or.inl (b2.trans o1))) j (hj.trans o2)
    · rw [if_neg (by omega)] at hop hj
      by_cases e0 : i = x
      · subst e0
        rw [if_pos ⟨rfl, hx⟩] at hop
        simp [nopI] at hop
      · rw [if_neg (by omega)] at hop hj
        exact hM.goes x hx hop j hj
  · intro x hx hop
    unfold lay2 at hx hop
    rw [getD_set, getD_set] at hop
    simp only [List.length_set] at hx hop
    by_cases e1 : i + 1 = x
    · rw [if_pos ⟨e1, b1⟩] at hop
      exact absurd hop hy13
    · rw [if_neg (by omega)] at hop
      by_cases e0 : i = x
      · subst e0
        rw [if_pos ⟨rfl, hx⟩] at hop
        simp [nopI] at hop
      · rw [if_neg (by omega)] at hop
        exact hM.back x hx hop
/- three of them -/
theorem fold3_puts {c : List Ins} {m : List Bool} {i : Nat} (hM : Marked c m) (hi : i < c.length) (h1 : (c.getD i dI).op = 1) (hb : bareB c m (i + 1) 1 = true) (hb2 : bareB c m (i + 2) 10 = true)
    (hd : ∀ mt (s : St), s.stack.length + 1 < 2048 → doI mt (c.getD (i + 2) dI) { s with stack := s.stack ++ [(c.getD i dI).a, (c.getD (i + 1) dI).a] } = doI mt (pshI (known (c.getD (i + 2) dI).a (c.getD i dI).a (c.getD (i + 1) dI).a)) s) :
    Puts c (fold3 c i) (fun k => if k = (i : Int) + 1 then [(c.getD i dI).a] else if k = (i : Int) + 2 then [(c.getD i dI).a, (c.getD (i + 1) dI).a] else []) := by
  obtain ⟨b1, b2, b3⟩ := bare_of hb
  obtain ⟨d1, d2, d3⟩ := bare_of hb2
  have far : ∀ t : Int, (∀ j : Nat, (j : Int) = t → m.getD j true = true) → (if t = (i : Int) + 1 then [(c.getD i dI).a] else if t = (i : Int) + 2 then [(c.getD i dI).a, (c.getD (i + 1) dI).a] else []) = [] := fun t ht => by
    rw [if_neg (fun e => by have := ht (i + 1) (by omega); rw [b3] at this; cases this), if_neg (fun e => by have := ht (i + 2) (by omega); rw [d3] at this; cases this)]
  refine ⟨by unfold fold3; simp, fun x hx => ?_⟩
  unfold fold3
  rw [getD_set, getD_set, getD_set]
  simp only [List.length_set]
  by_cases e0 : x = i
  · subst e0
    refine Or.inr (Or.inl ⟨h1, ?_, ?_⟩)
    · rw [if_neg (by omega), if_neg (by omega), if_pos ⟨rfl, hx⟩]
    · rw [if_pos rfl, if_neg (by omega), if_neg (by omega)]; rfl
  · by_cases e1 : x = i + 1
    · subst e1
      refine Or.inr (Or.inl ⟨b2, ?_, ?_⟩)
      · rw [if_neg (by omega), if_pos ⟨rfl, b1⟩]
      · rw [if_neg (by omega), if_pos (by omega), if_pos (by omega)]; rfl
    · by_cases e2 : x = i + 2
      · subst e2
        rw [if_pos ⟨rfl, d1⟩]
        refine Or.inr (Or.inr ⟨?_, ?_, ?_, ?_⟩)
        · rw [if_neg (by omega), if_pos (by omega)]; simp
        · rw [if_neg (by omega), if_neg (by omega)]
        · intro h; simp [pshI] at h
        · intro mt s hl
          rw [if_neg (by omega), if_pos (by omega)] at hl ⊢
          simp only [List.length_append, List.length_cons, List.length_nil] at hl
          exact hd mt s (by omega)
      · refine Or.inl ⟨?_, ?_, ?_, ?_⟩
        · rw [if_neg (by omega), if_neg (by omega), if_neg (by omega)]
        · rw [if_neg (by omega), if_neg (by omega)]
        · rw [if_neg (by omega), if_neg (by omega)]
        · exact fun h => far _ (hM.goes x hx h)
theorem fold3_marked {c : List Ins} {m : List Bool} {i : Nat} (hM : Marked c m) : Marked (fold3 c i) m := by
  have key : ∀ x, x < c.length → ((fold3 c i).getD x dI).op = 21 ∨ ((fold3 c i).getD x dI).op = 1 ∨ (fold3 c i).getD x dI = c.getD x dI := by
    intro x hx
    unfold fold3
    rw [getD_set, getD_set, getD_set]
    split
    · exact Or.inr (Or.inl rfl)
    · split
      · exact Or.inl rfl
      · split
        · exact Or.inl rfl
        · exact Or.inr (Or.inr rfl)
  have hl : (fold3 c i).length = c.length := by unfold fold3; simp
  constructor
  · intro x hx hop j hj
    rw [hl] at hx
    rcases key x hx with h | h | h
    · rw [h] at hop; omega
    · rw [h] at hop; omega
    · rw [h] at hop hj; exact hM.goes x hx hop j hj
  · intro x hx hop
    rw [hl] at hx
    rcases key x hx with h | h | h
    · rw [h] at hop; omega
    · rw [h] at hop; omega
    · rw [h] at hop; exact hM.back x hx hop

/- what the machine does with numbers that are known -/
theorem pop_snoc (s : St) (n : Int) : pop { s with stack := s.stack ++ [n] } = .ok n s := by
  unfold pop
  simp
theorem pop_snoc2 (s : St) (a b : Int) : pop { s with stack := s.stack ++ [a, b] } = .ok b { s with stack := s.stack ++ [a] } := by
  have := pop_snoc { s with stack := s.stack ++ [a] } b
  simp only [List.append_assoc, List.singleton_append] at this
  exact this
theorem folds_some {op : Int} (h : foldsB op = true) (a b : Int) : isOp op = true ∧ reck op a b = some (known op a b) := by
  unfold foldsB at h
  simp only [Bool.or_eq_true, decide_eq_true_eq] at h
  unfold known reck isOp
  rcases h with (((h | h) | h) | h) | h <;> subst h <;> simp
theorem do_fold {op a b mt : Int} (x : Ins) (h10 : x.op = 10) (hx : x.a = op) (hf : foldsB op = true) (s : St) : doI mt x { s with stack := s.stack ++ [a, b] } = doI mt (pshI (known op a b)) s := by
  obtain ⟨h1, h2⟩ := folds_some hf a b
  rw [doI_math _ _ _ h10, hx, doI_push _ _ _ rfl]
  unfold math
  rw [if_pos h1, pop_snoc2]
  simp only [Res.bind]
  rw [pop_snoc]
  simp only [h2]
  rfl
theorem do_dec {n mt : Int} (x : Ins) (h : x.op = 12) (s : St) : doI mt x { s with stack := s.stack ++ [n] } = doI mt (decI n x.a) s := by
  rw [doI_zero _ _ _ h, pop_snoc]
  simp only [Res.bind]
  unfold decI
  split
  · rw [doI_jump _ _ _ rfl]; rfl
  · rw [doI_nop _ _ _ rfl]
theorem do_not {n mt : Int} (x : Ins) (h : x.op = 9) (s : St) : doI mt x { s with stack := s.stack ++ [n] } = doI mt (pshI (truth (n == 0))) s := by
  rw [doI_not _ _ _ h, pop_snoc, doI_push _ _ _ rfl]
  rfl
theorem do_truth {n mt : Int} (x : Ins) (h : x.op = 22) (s : St) : doI mt x { s with stack := s.stack ++ [n] } = doI mt (pshI (truth (n != 0))) s := by
  rw [doI_truth _ _ _ h, pop_snoc, doI_push _ _ _ rfl]
  rfl
theorem do_drop {n mt : Int} (x : Ins) (h : x.op = 17) (s : St) : doI mt x { s with stack := s.stack ++ [n] } = doI mt nopI s := by
  rw [doI_drop _ _ _ h, pop_snoc, doI_nop _ _ _ rfl]
  rfl

theorem folded_same {c : List Ins} {m : List Bool} {i : Nat} (hM : Marked c m) (hi : i < c.length) (h1 : (c.getD i dI).op = 1) : SameRun c (folded c m i) ∧ Marked (folded c m i) m := by
  have p0 : (if (0 : Int) = (i : Int) + 1 then [(c.getD i dI).a] else []) = [] := if_neg (by omega)
  have q0 : (if (0 : Int) = (i : Int) + 1 then [(c.getD i dI).a] else if (0 : Int) = (i : Int) + 2 then [(c.getD i dI).a, (c.getD (i + 1) dI).a] else []) = [] := by rw [if_neg (by omega), if_neg (by omega)]
  unfold folded
  split
  · rename_i h
    simp only [Bool.and_eq_true] at h
    obtain ⟨⟨ha, hb⟩, hf⟩ := h
    exact ⟨(fold3_puts hM hi h1 ha hb (fun mt s _ => do_fold _ (bare_of hb).2.1 rfl hf s)).same q0, fold3_marked hM⟩
  · split
    · rename_i h
      have hy : ((decI (c.getD i dI).a (c.getD (i + 1) dI).a).op = 11 ∨ (decI (c.getD i dI).a (c.getD (i + 1) dI).a).op = 12 ∨ (decI (c.getD i dI).a (c.getD (i + 1) dI).a).op = 13) → (12 : Int) = 12 ∧ (decI (c.getD i dI).a (c.getD (i + 1) dI).a).a = (c.getD (i + 1) dI).a := by
        unfold decI
        split
        · exact fun _ => ⟨rfl, rfl⟩
        · intro h; simp [nopI] at h
      refine ⟨(lay2_puts hM hi h1 h hy (fun mt s _ => do_dec _ (bare_of h).2.1 s)).same p0, lay2_marked hM h hy ?_⟩
      unfold decI
      split <;> simp [jmpI, nopI]
    · split
      · rename_i h
        exact ⟨(lay2_puts hM hi h1 h (fun h => by simp [pshI] at h) (fun mt s _ => do_not _ (bare_of h).2.1 s)).same p0, lay2_marked hM h (fun h => by simp [pshI] at h) (by simp [pshI])⟩
      · split
        · rename_i h
          exact ⟨(lay2_puts hM hi h1 h (fun h => by simp [pshI] at h) (fun mt s _ => do_truth _ (bare_of h).2.1 s)).same p0, lay2_marked hM h (fun h => by simp [pshI] at h) (by simp [pshI])⟩
        · split
          · rename_i h
            exact ⟨(lay2_puts hM hi h1 h (fun h => by simp [nopI] at h) (fun mt s _ => do_drop _ (bare_of h).2.1 s)).same p0, lay2_marked hM h (fun h => by simp [nopI] at h) (by simp [nopI])⟩
          · exact ⟨SameRun.refl c, hM⟩

end Mc
end Go.Proofs.Ytpahhhhfhnpmjaa

namespace Go.Proofs.Ytpahhhhfhnpmjaa
namespace Mc
open Go.RowKit

/- p is q, with some jumps that go where the jump that they go to goes -/
structure Short (q p : List Ins) : Prop where
  len : p.length = q.length
  each : ∀ x : Nat, x < q.length → p.getD x dI = q.getD x dI ∨
    (jumpB (q.getD x dI) = true ∧ ∃ t : Nat, (t : Int) = (q.getD x dI).a ∧ t < q.length ∧ (q.getD t dI).op = 11 ∧ p.getD x dI = ⟨(q.getD x dI).op, (q.getD t dI).a, (q.getD x dI).b⟩)
/- y is h jumps behind x -/
def hops (q : List Ins) : Nat → Int → Int → Prop
  | 0, x, y => x = y
  | h + 1, x, y => ∃ t : Nat, (t : Int) = x ∧ t < q.length ∧ (q.getD t dI).op = 11 ∧ hops q h (q.getD t dI).a y
structure HRel (q : List Ins) (h : Nat) (s s' : St) : Prop where
  hop : hops q h s.pc s'.pc
  eq : s' = { s with pc := s'.pc, steps := s'.steps }
  steps : s'.steps ≤ s.steps + h
def Alike (a b : St) : Prop := b.en = a.en ∧ b.out = a.out ∧ b.data = a.data ∧ b.ticks = a.ticks ∧ b.steps ≤ a.steps

theorem jump_step (q : List Ins) (mt : Int) (s : St) (t : Nat) (ht : (t : Int) = s.pc) (hl : t < q.length) (h : (q.getD t dI).op = 11) : core q mt s = .ok () { s with steps := s.steps + 1, pc := (q.getD t dI).a } := by
  rw [core_in q mt s t hl ht.symm, doI_jump _ _ _ h]

theorem run_short {q p : List Ins} (hP : Short q p) (mt ms : Int) : ∀ (f g h : Nat) (s s' : St), HRel q h s s' → s.steps ≤ ms → (ms - s.steps).toNat < f → s'.steps ≤ ms → (ms - s'.steps).toNat < g →
    (run ⟨q, mt, ms⟩ f s).en ≠ 6 → (run ⟨q, mt, ms⟩ f s).en ≠ 7 → Alike (run ⟨q, mt, ms⟩ f s) (run ⟨p, mt, ms⟩ g s')
  | 0, _, _, _, _, _, _, h, _, _, _, _ => by omega
  | _ + 1, 0, _, _, _, _, _, _, _, h, _, _ => by omega
  | f + 1, g + 1, h, s, s', hR, hs, hf, hs', hg, h6, h7 => by
    rw [run_succ ⟨q, mt, ms⟩] at h6 h7 ⊢
    by_cases hm : s.steps = ms
    · have e : step ⟨q, mt, ms⟩ s = halt 7 s := if_pos hm
      rw [e] at h7
      exact absurd rfl h7
    · have e : step ⟨q, mt, ms⟩ s = core q mt s := if_neg hm
      rw [e] at h6 h7 ⊢
      cases h with
      | succ h =>
        obtain ⟨t, ht, hl, h11, hh⟩ := hR.hop
        rw [jump_step q mt s t ht hl h11] at h6 h7 ⊢
        simp only at h6 h7 ⊢
        refine run_short hP mt ms f (g + 1) h _ s' ⟨hh, hR.eq, ?_⟩ ?_ ?_ hs' hg h6 h7
        · have := hR.steps; simp only; omega
        · simp only; omega
        · simp only; omega
      | zero =>
        have hpc : s.pc = s'.pc := hR.hop
        have hst : s'.steps ≤ s.steps := by have := hR.steps; simpa using this
        have hss : s' = s.at s'.steps := by
          have := hR.eq
          rw [← hpc] at this
          exact this
        by_cases hin : 0 ≤ s.pc ∧ s.pc < q.length
        · obtain ⟨x, hx⟩ := Int.eq_ofNat_of_zero_le hin.1
          have hxl : x < q.length := by omega
          have hc := core_in q mt s x hxl hx
          have hc' := core_in p mt s' x (by rw [hP.len]; exact hxl) (by rw [← hpc]; exact hx)
          have e' : step ⟨p, mt, ms⟩ s' = core p mt s' := if_neg (by show ¬ s'.steps = ms; omega)
          rw [run_succ ⟨p, mt, ms⟩, e']
          have hsame : ∀ i, doI mt i { s' with steps := s'.steps + 1, pc := (x : Int) + 1 } = (doI mt i { s with steps := s.steps + 1, pc := (x : Int) + 1 }).at (s'.steps + 1) := by
            intro i
            have := comm_do mt i { s with steps := s.steps + 1, pc := (x : Int) + 1 } (s'.steps + 1)
            rw [← this]
            congr 1
            rw [hss]
            rfl
          have hcs := (core_steps q mt s).1
          rcases hP.each x hxl with k | ⟨kj, t, kt, kl, k11, kp⟩
          · rw [k, hsame, ← hc] at hc'
            rw [hc']
            cases hr : core q mt s with
            | stop F => exact ⟨rfl, rfl, rfl, rfl, by
                rw [hr] at hcs
                simp only [Res.fin] at hcs
                show s'.steps + 1 ≤ F.steps
                omega⟩
            | ok u s1 =>
              rw [hr] at h6 h7 hcs
              simp only [Res.fin] at hcs
              simp only [Res.at] at h6 h7 ⊢
              refine run_short hP mt ms f g 0 s1 (s1.at (s'.steps + 1)) ⟨rfl, rfl, ?_⟩ (by omega) (by omega) ?_ ?_ h6 h7
              · show s'.steps + 1 ≤ s1.steps + 0; omega
              · show s'.steps + 1 ≤ ms; omega
              · show (ms - (s'.steps + 1)).toNat < g; omega
          · rw [kp] at hc'
            unfold jumpB at kj
            simp only [Bool.or_eq_true, decide_eq_true_eq] at kj
            rcases kj with k1 | k1
            · rw [doI_jump _ _ _ k1] at hc
              rw [doI_jump _ ⟨(q.getD x dI).op, (q.getD t dI).a, (q.getD x dI).b⟩ _ k1] at hc'
              rw [hc] at h6 h7 ⊢
              rw [hc']
              simp only at h6 h7 ⊢
              refine run_short hP mt ms f g 1 _ _ ⟨⟨t, kt, kl, k11, rfl⟩, ?_, ?_⟩ ?_ ?_ ?_ ?_ h6 h7
              · simp only; rw [hss]; rfl
              · simp only; omega
              · simp only; omega
              · simp only; omega
              · simp only; omega
              · simp only; omega
            · rw [doI_zero _ _ _ k1] at hc
              rw [doI_zero _ ⟨(q.getD x dI).op, (q.getD t dI).a, (q.getD x dI).b⟩ _ k1] at hc'
              have hpop : pop { s' with steps := s'.steps + 1, pc := (x : Int) + 1 } = (pop { s with steps := s.steps + 1, pc := (x : Int) + 1 }).at (s'.steps + 1) := by
                have := comm_pop { s with steps := s.steps + 1, pc := (x : Int) + 1 } (s'.steps + 1)
                rw [← this]
                congr 1
                rw [hss]
                rfl
              rw [hpop] at hc'
              have hk := goes_pop { s with steps := s.steps + 1, pc := (x : Int) + 1 }
              cases hr : pop { s with steps := s.steps + 1, pc := (x : Int) + 1 } with
              | stop F =>
                rw [hr] at hc
                simp only [Res.bind] at hc
                have : F.en = 6 := by
                  unfold pop at hr
                  split at hr
                  · cases hr
                  · cases hr; rfl
                rw [hc] at h6
                exact absurd this h6
              | ok n s1 =>
                rw [hr] at hc hc' hk
                have hks : s1.steps = s.steps + 1 := hk.1
                simp only [Res.bind, Res.at] at hc hc'
                rw [hc] at h6 h7 ⊢
                rw [hc']
                simp only at h6 h7 ⊢
                by_cases hn : n = 0
                · rw [if_pos hn] at h6 h7 ⊢
                  rw [if_pos hn]
                  refine run_short hP mt ms f g 1 _ _ ⟨⟨t, kt, kl, k11, rfl⟩, rfl, ?_⟩ ?_ ?_ ?_ ?_ h6 h7
                  · show s'.steps + 1 ≤ s1.steps + 1; omega
                  · show s1.steps ≤ ms; omega
                  · show (ms - s1.steps).toNat < f; omega
                  · show s'.steps + 1 ≤ ms; omega
                  · show (ms - (s'.steps + 1)).toNat < g; omega
                · rw [if_neg hn] at h6 h7 ⊢
                  rw [if_neg hn]
                  refine run_short hP mt ms f g 0 _ _ ⟨rfl, rfl, ?_⟩ ?_ ?_ ?_ ?_ h6 h7
                  · show s'.steps + 1 ≤ s1.steps + 0; omega
                  · show s1.steps ≤ ms; omega
                  · show (ms - s1.steps).toNat < f; omega
                  · show s'.steps + 1 ≤ ms; omega
                  · show (ms - (s'.steps + 1)).toNat < g; omega
        · rw [core_out q mt s hin] at h6
          exact absurd rfl h6
termination_by f _ _ => f

end Mc
end Go.Proofs.Ytpahhhhfhnpmjaa

namespace Go.Proofs.Ytpahhhhfhnpmjaa
namespace Mc
open Go.RowKit

/- only the rules of what is known -/
def foldTo (was : List Ins) (m : List Bool) : Nat → List Ins
  | 0 => was
  | k + 1 => if ((foldTo was m k).getD k dI).op = 1 then folded (foldTo was m k) m k else foldTo was m k
theorem foldTo_len (was : List Ins) (m : List Bool) : ∀ k, (foldTo was m k).length = was.length
  | 0 => rfl
  | k + 1 => by
    unfold foldTo
    split
    · rw [folded_len]; exact foldTo_len was m k
    · exact foldTo_len was m k
theorem foldTo_same (was : List Ins) (m : List Bool) (hM : Marked was m) : ∀ k, k ≤ was.length → SameRun was (foldTo was m k) ∧ Marked (foldTo was m k) m
  | 0, _ => ⟨SameRun.refl _, hM⟩
  | k + 1, hk => by
    obtain ⟨h1, h2⟩ := foldTo_same was m hM k (by omega)
    unfold foldTo
    split
    · rename_i h
      obtain ⟨h3, h4⟩ := folded_same h2 (by rw [foldTo_len]; omega) h
      exact ⟨h1.trans h3, h4⟩
    · exact ⟨h1, h2⟩

structure Agree (was : List Ins) (k : Nat) (q p : List Ins) : Prop where
  lq : q.length = was.length
  lp : p.length = was.length
  low : ∀ x, k ≤ x → p.getD x dI = q.getD x dI
  each : ∀ x, p.getD x dI = q.getD x dI ∨ (jumpB (q.getD x dI) = true ∧ ∃ t : Nat, (t : Int) = (q.getD x dI).a ∧ t < was.length ∧ (was.getD t dI).op = 11 ∧ p.getD x dI = ⟨(q.getD x dI).op, (was.getD t dI).a, (q.getD x dI).b⟩)
  keep : ∀ t, (was.getD t dI).op = 11 → q.getD t dI = was.getD t dI
theorem Agree.set {was q p : List Ins} {k : Nat} (h : Agree was k q p) (j : Nat) (y : Ins) (hj : ¬ (was.getD j dI).op = 11) : Agree was k (q.set j y) (p.set j y) := by
  refine ⟨by rw [List.length_set]; exact h.lq, by rw [List.length_set]; exact h.lp, fun x hx => ?_, fun x => ?_, fun t ht => ?_⟩
  · rw [getD_set, getD_set, h.lq, h.lp, h.low x hx]
  · rw [getD_set, getD_set, h.lq, h.lp]
    by_cases e : j = x ∧ j < was.length
    · rw [if_pos e, if_pos e]; exact Or.inl rfl
    · rw [if_neg e, if_neg e]; exact h.each x
  · rw [getD_set, if_neg (fun e => hj (by rw [e.1]; exact ht))]
    exact h.keep t ht
theorem Agree.next {was q p : List Ins} {k : Nat} (h : Agree was k q p) : Agree was (k + 1) q p := ⟨h.lq, h.lp, fun x hx => h.low x (by omega), h.each, h.keep⟩
theorem Agree.bare {was q p : List Ins} {k : Nat} (h : Agree was k q p) (m : List Bool) (j : Nat) (hj : k ≤ j) (op : Int) : bareB p m j op = bareB q m j op := by
  unfold bareB; rw [h.low j hj, h.lq, h.lp]
theorem Agree.not11 {was q p : List Ins} {k : Nat} (h : Agree was k q p) {j : Nat} (hj : ¬ (q.getD j dI).op = 11) : ¬ (was.getD j dI).op = 11 := fun e => hj (by rw [h.keep j e]; exact e)
theorem Agree.lay2 {was q p : List Ins} {k : Nat} (h : Agree was k q p) (y : Ins) (h0 : (q.getD k dI).op = 1) (h1 : ¬ (q.getD (k + 1) dI).op = 11) : Agree was k (lay2 q k y) (lay2 p k y) := by
  unfold Mc.lay2
  exact (h.set k _ (h.not11 (by rw [h0]; decide))).set (k + 1) _ (h.not11 h1)
theorem Agree.folded {was q p : List Ins} {k : Nat} (m : List Bool) (h : Agree was k q p) (h0 : (q.getD k dI).op = 1) : Agree was k (folded q m k) (folded p m k) := by
  unfold Mc.folded
  rw [h.bare m (k + 1) (by omega), h.bare m (k + 2) (by omega), h.bare m (k + 1) (by omega), h.bare m (k + 1) (by omega), h.bare m (k + 1) (by omega), h.bare m (k + 1) (by omega), h.low k (by omega), h.low (k + 1) (by omega), h.low (k + 2) (by omega)]
  split
  · rename_i hb
    simp only [Bool.and_eq_true] at hb
    unfold fold3
    rw [h.low k (by omega), h.low (k + 1) (by omega), h.low (k + 2) (by omega)]
    exact ((h.set k _ (h.not11 (by rw [h0]; decide))).set (k + 1) _ (h.not11 (by rw [(bare_of hb.1.1).2.1]; decide))).set (k + 2) _ (h.not11 (by rw [(bare_of hb.1.2).2.1]; decide))
  · split
    · rename_i hb; exact h.lay2 _ h0 (by rw [(bare_of hb).2.1]; decide)
    · split
      · rename_i hb; exact h.lay2 _ h0 (by rw [(bare_of hb).2.1]; decide)
      · split
        · rename_i hb; exact h.lay2 _ h0 (by rw [(bare_of hb).2.1]; decide)
        · split
          · rename_i hb; exact h.lay2 _ h0 (by rw [(bare_of hb).2.1]; decide)
          · exact h
theorem Agree.shorten {was q p : List Ins} {k : Nat} (h : Agree was k q p) (hj : jumpB (q.getD k dI) = true) : Agree was (k + 1) q (shorten was p k) := by
  unfold Mc.shorten
  rw [h.low k (Nat.le_refl _)]
  split
  · rename_i hs
    unfold shortB at hs
    simp only [Bool.and_eq_true, decide_eq_true_eq, Bool.not_eq_true', decide_eq_false_iff_not] at hs
    obtain ⟨⟨⟨s1, s2⟩, s3⟩, s4⟩ := hs
    refine ⟨h.lq, by rw [List.length_set]; exact h.lp, fun x hx => ?_, fun x => ?_, h.keep⟩
    · rw [getD_set, if_neg (by omega)]; exact h.low x (by omega)
    · rw [getD_set]
      by_cases e : k = x ∧ k < p.length
      · rw [if_pos e]
        obtain ⟨e1, e2⟩ := e
        subst e1
        exact Or.inr ⟨hj, (q.getD k dI).a.toNat, by omega, by omega, s4, rfl⟩
      · rw [if_neg e]; exact h.each x
  · exact h.next
theorem agree (was : List Ins) (m : List Bool) : ∀ k, Agree was k (foldTo was m k) (peepTo was m k)
  | 0 => ⟨rfl, rfl, fun _ _ => rfl, fun _ => Or.inl rfl, fun _ _ => rfl⟩
  | k + 1 => by
    have h := agree was m k
    unfold foldTo peepTo lookAt
    have hl := h.low k (Nat.le_refl _)
    by_cases hj : jumpB ((foldTo was m k).getD k dI) = true
    · have h1 : ¬ ((foldTo was m k).getD k dI).op = 1 := by
        unfold jumpB at hj
        simp only [Bool.or_eq_true, decide_eq_true_eq] at hj
        omega
      rw [if_neg h1, hl, if_pos hj]
      exact h.shorten hj
    · rw [hl, if_neg hj]
      by_cases h1 : ((foldTo was m k).getD k dI).op = 1
      · rw [if_pos h1, if_pos h1]
        exact (h.folded m h1).next
      · rw [if_neg h1, if_neg h1]
        exact h.next
theorem Agree.short {was q p : List Ins} {k : Nat} (h : Agree was k q p) : Short q p :=
  ⟨h.lp.trans h.lq.symm, fun x _ => by
    rcases h.each x with e | ⟨hj, t, h1, h2, h3, h4⟩
    · exact Or.inl e
    · have e := h.keep t h3
      refine Or.inr ⟨hj, t, h1, by rw [h.lq]; exact h2, by rw [e]; exact h3, ?_⟩
      rw [e]; exact h4⟩

theorem peep_alike (was : List Ins) (mt ms : Int) (f g : Nat) (s : St) (hs : Start s) (h0 : 0 ≤ ms) (hf : ms.toNat < f) (hg : ms.toNat < g) (h6 : (run ⟨was, mt, ms⟩ f s).en ≠ 6) (h7 : (run ⟨was, mt, ms⟩ f s).en ≠ 7) :
    Alike (run ⟨was, mt, ms⟩ f s) (run ⟨peep was, mt, ms⟩ g s) := by
  have e := (foldTo_same was (marks was) (marked was) was.length (Nat.le_refl _)).1 mt ms f s hs h0 hf h6 h7
  rw [← e] at h6 h7 ⊢
  exact run_short (agree was (marks was) was.length).short mt ms f g 0 s s ⟨rfl, rfl, by omega⟩ (by rw [hs.steps]; exact h0) (by rw [hs.steps]; omega) (by rw [hs.steps]; exact h0) (by rw [hs.steps]; omega) h6 h7

/- what holds of all instructions, still does -/
def AllI (P : Ins → Prop) (c : List Ins) : Prop := ∀ x, x < c.length → P (c.getD x dI)
theorem AllI.set {P : Ins → Prop} {c : List Ins} (h : AllI P c) (j : Nat) {y : Ins} (hy : P y) : AllI P (c.set j y) := fun x hx => by
  rw [List.length_set] at hx
  rw [getD_set]
  split
  · exact hy
  · exact h x hx
theorem AllI.of {P : Ins → Prop} {c : List Ins} (h : ∀ i ∈ c, P i) : AllI P c := fun x hx => by
  rw [List.getD_eq_getElem?_getD, List.getElem?_eq_getElem hx]
  exact h _ (List.getElem_mem hx)
theorem AllI.mem {P : Ins → Prop} {c : List Ins} (h : AllI P c) : ∀ i ∈ c, P i := fun i hi => by
  obtain ⟨x, hx, rfl⟩ := List.getElem_of_mem hi
  have := h x hx
  rw [List.getD_eq_getElem?_getD, List.getElem?_eq_getElem hx] at this
  exact this
structure Kind (P : Ins → Prop) : Prop where
  nop : P nopI
  psh : ∀ op a b, foldsB op = true → P (pshI (known op a b))
  tru : ∀ b, P (pshI (truth b))
  jmp : ∀ x, P x → P (jmpI x.a)
  cut : ∀ x y, P x → P y → P ⟨x.op, y.a, x.b⟩
theorem AllI.folded {P : Ins → Prop} (hP : Kind P) {c : List Ins} (m : List Bool) (i : Nat) (h : AllI P c) : AllI P (folded c m i) := by
  unfold Mc.folded
  split
  · rename_i hb
    simp only [Bool.and_eq_true] at hb
    exact ((h.set i hP.nop).set (i + 1) hP.nop).set (i + 2) (hP.psh _ _ _ hb.2)
  · split
    · rename_i hb
      refine (h.set i hP.nop).set (i + 1) ?_
      unfold decI
      split
      · exact hP.jmp _ (h _ (bare_of hb).1)
      · exact hP.nop
    · split
      · exact (h.set i hP.nop).set (i + 1) (hP.tru _)
      · split
        · exact (h.set i hP.nop).set (i + 1) (hP.tru _)
        · split
          · exact (h.set i hP.nop).set (i + 1) hP.nop
          · exact h
theorem AllI.peepTo {P : Ins → Prop} (hP : Kind P) {was : List Ins} (m : List Bool) (h : AllI P was) : ∀ k, k ≤ was.length → AllI P (peepTo was m k)
  | 0, _ => h
  | k + 1, hk => by
    have ih := AllI.peepTo hP m h k (by omega)
    have hkl : k < (Mc.peepTo was m k).length := by rw [peepTo_len]; omega
    unfold Mc.peepTo lookAt
    split
    · unfold Mc.shorten
      split
      · rename_i hs
        unfold shortB at hs
        simp only [Bool.and_eq_true, decide_eq_true_eq, Bool.not_eq_true', decide_eq_false_iff_not] at hs
        exact ih.set k (hP.cut _ _ (ih k hkl) (h _ (by omega)))
      · exact ih
    · split
      · exact AllI.folded hP m k ih
      · exact ih
theorem AllI.peep {P : Ins → Prop} (hP : Kind P) {was : List Ins} (h : AllI P was) : AllI P (peep was) := AllI.peepTo hP _ h _ (Nat.le_refl _)

end Mc
end Go.Proofs.Ytpahhhhfhnpmjaa
