/-
  What is folded at a place does the same.
-/
import Derived.Test.YtpahhhhfhnpmjaaPc
namespace Go.Proofs.Ytpahhhhfhnpmjaa
namespace Mc
open Go.RowKit

structure Start (s : St) : Prop where
  pc : s.pc = 0
  bk : s.bk = 0
  gs : s.gs = []
  steps : s.steps = 0
def SameRun (c c' : List Ins) : Prop := ∀ (mt ms : Int) (f : Nat) (s : St), Start s → 0 ≤ ms → ms.toNat < f → (run ⟨c, mt, ms⟩ f s).en ≠ 6 → (run ⟨c, mt, ms⟩ f s).en ≠ 7 → run ⟨c', mt, ms⟩ f s = run ⟨c, mt, ms⟩ f s
theorem SameRun.refl (c : List Ins) : SameRun c c := fun _ _ _ _ _ _ _ _ _ => rfl
theorem SameRun.trans {a b c : List Ins} (h : SameRun a b) (k : SameRun b c) : SameRun a c := fun mt ms f s hs h0 hf h6 h7 => by
  have e := h mt ms f s hs h0 hf h6 h7
  rw [← e] at h6 h7
  rw [k mt ms f s hs h0 hf h6 h7, e]
theorem Puts.same {c c' : List Ins} {pend : Int → List Int} (h : Puts c c' pend) (h0 : pend 0 = []) : SameRun c c' := fun mt ms f s hs hm hf h6 h7 =>
  run_puts h mt ms f s s (PRel.refl (by rw [hs.pc]; exact h0) ⟨by rw [hs.bk]; exact h0, by rw [hs.gs]; intro f hf; cases hf⟩) (by rw [hs.steps]; exact hm) (by rw [hs.steps]; omega) h6 h7

theorem bare_of {c : List Ins} {m : List Bool} {i : Nat} {op : Int} (h : bareB c m i op = true) : i < c.length ∧ (c.getD i dI).op = op ∧ m.getD i true = false := by
  unfold bareB at h
  simp only [Bool.and_eq_true, decide_eq_true_eq, Bool.not_eq_true'] at h
  exact ⟨h.1.1, h.1.2, h.2⟩

/- two of them -/
theorem lay2_puts {c : List Ins} {m : List Bool} {i : Nat} {y : Ins} {op : Int} (hM : Marked c m) (hi : i < c.length) (h1 : (c.getD i dI).op = 1) (hb : bareB c m (i + 1) op = true)
    (hy : (y.op = 11 ∨ y.op = 12 ∨ y.op = 13) → op = 12 ∧ y.a = (c.getD (i + 1) dI).a)
    (hd : ∀ mt (s : St), s.stack.length < 2048 → doI mt (c.getD (i + 1) dI) { s with stack := s.stack ++ [(c.getD i dI).a] } = doI mt y s) :
    Puts c (lay2 c i y) (fun k => if k = (i : Int) + 1 then [(c.getD i dI).a] else []) := by
  obtain ⟨b1, b2, b3⟩ := bare_of hb
  have far : ∀ t : Int, (∀ j : Nat, (j : Int) = t → m.getD j true = true) → (if t = (i : Int) + 1 then [(c.getD i dI).a] else []) = [] := fun t ht => by
    rw [if_neg (fun e => by have := ht (i + 1) (by omega); rw [b3] at this; cases this)]
  refine ⟨by unfold lay2; simp, fun x hx => ?_⟩
  unfold lay2
  rw [getD_set, getD_set]
  simp only [List.length_set]
  by_cases e0 : x = i
  · subst e0
    refine Or.inr (Or.inl ⟨h1, ?_, ?_⟩)
    · rw [if_neg (by omega), if_pos ⟨rfl, hx⟩]
    · rw [if_pos rfl, if_neg (by omega)]; rfl
  · by_cases e1 : x = i + 1
    · subst e1
      rw [if_pos ⟨rfl, b1⟩]
      refine Or.inr (Or.inr ⟨?_, ?_, ?_, ?_⟩)
      · rw [if_pos (by simp)]; simp
      · rw [if_neg (by omega)]
      · intro h
        obtain ⟨o1, o2⟩ := hy h
        rw [o2]
        exact far _ (hM.goes (i + 1) b1 (Or.inr (Or.inl (b2.trans o1))))
      · intro mt s hl
        rw [if_pos (by simp)] at hl ⊢
        simp only [List.length_append, List.length_cons, List.length_nil] at hl
        exact hd mt s (by omega)
    · refine Or.inl ⟨?_, ?_, ?_, ?_⟩
      · rw [if_neg (by omega), if_neg (by omega)]
      · rw [if_neg (by omega)]
      · rw [if_neg (by omega)]
      · exact fun h => far _ (hM.goes x hx h)
theorem lay2_marked {c : List Ins} {m : List Bool} {i : Nat} {y : Ins} {op : Int} (hM : Marked c m) (hb : bareB c m (i + 1) op = true)
    (hy : (y.op = 11 ∨ y.op = 12 ∨ y.op = 13) → op = 12 ∧ y.a = (c.getD (i + 1) dI).a) (hy13 : y.op ≠ 13) : Marked (lay2 c i y) m := by
  obtain ⟨b1, b2, b3⟩ := bare_of hb
  constructor
  · intro x hx hop j hj
    unfold lay2 at hx hop hj
    rw [getD_set, getD_set] at hop hj
    simp only [List.length_set] at hx hop hj
    by_cases e1 : i + 1 = x
    · rw [if_pos ⟨e1, b1⟩] at hop hj
      obtain ⟨o1, o2⟩ := hy hop
      exact hM.goes (i + 1) b1 (Or.inr (Or.inl (b2.trans o1))) j (hj.trans o2)
    · rw [if_neg (by omega)] at hop hj
      by_cases e0 : i = x
      · subst e0
        rw [if_pos ⟨rfl, hx⟩] at hop
        simp [nopI] at hop
      · rw [if_neg (by omega)] at hop hj
        exact hM.goes x hx hop j hj
  · intro x hx hop
    unfold lay2 at hx hop
    rw [getD_set, getD_set] at hop
    simp only [List.length_set] at hx hop
    by_cases e1 : i + 1 = x
    · rw [if_pos ⟨e1, b1⟩] at hop
      exact absurd hop hy13
    · rw [if_neg (by omega)] at hop
      by_cases e0 : i = x
      · subst e0
        rw [if_pos ⟨rfl, hx⟩] at hop
        simp [nopI] at hop
      · rw [if_neg (by omega)] at hop
        exact hM.back x hx hop
/- three of them -/
theorem fold3_puts {c : List Ins} {m : List Bool} {i : Nat} (hM : Marked c m) (hi : i < c.length) (h1 : (c.getD i dI).op = 1) (hb : bareB c m (i + 1) 1 = true) (hb2 : bareB c m (i + 2) 10 = true)
    (hd : ∀ mt (s : St), s.stack.length + 1 < 2048 → doI mt (c.getD (i + 2) dI) { s with stack := s.stack ++ [(c.getD i dI).a, (c.getD (i + 1) dI).a] } = doI mt (pshI (known (c.getD (i + 2) dI).a (c.getD i dI).a (c.getD (i + 1) dI).a)) s) :
    Puts c (fold3 c i) (fun k => if k = (i : Int) + 1 then [(c.getD i dI).a] else if k = (i : Int) + 2 then [(c.getD i dI).a, (c.getD (i + 1) dI).a] else []) := by
  obtain ⟨b1, b2, b3⟩ := bare_of hb
  obtain ⟨d1, d2, d3⟩ := bare_of hb2
  have far : ∀ t : Int, (∀ j : Nat, (j : Int) = t → m.getD j true = true) → (if t = (i : Int) + 1 then [(c.getD i dI).a] else if t = (i : Int) + 2 then [(c.getD i dI).a, (c.getD (i + 1) dI).a] else []) = [] := fun t ht => by
    rw [if_neg (fun e => by have := ht (i + 1) (by omega); rw [b3] at this; cases this), if_neg (fun e => by have := ht (i + 2) (by omega); rw [d3] at this; cases this)]
  refine ⟨by unfold fold3; simp, fun x hx => ?_⟩
  unfold fold3
  rw [getD_set, getD_set, getD_set]
  simp only [List.length_set]
  by_cases e0 : x = i
  · subst e0
    refine Or.inr (Or.inl ⟨h1, ?_, ?_⟩)
    · rw [if_neg (by omega), if_neg (by omega), if_pos ⟨rfl, hx⟩]
    · rw [if_pos rfl, if_neg (by omega), if_neg (by omega)]; rfl
  · by_cases e1 : x = i + 1
    · subst e1
      refine Or.inr (Or.inl ⟨b2, ?_, ?_⟩)
      · rw [if_neg (by omega), if_pos ⟨rfl, b1⟩]
      · rw [if_neg (by omega), if_pos (by omega), if_pos (by omega)]; rfl
    · by_cases e2 : x = i + 2
      · subst e2
        rw [if_pos ⟨rfl, d1⟩]
        refine Or.inr (Or.inr ⟨?_, ?_, ?_, ?_⟩)
        · rw [if_neg (by omega), if_pos (by omega)]; simp
        · rw [if_neg (by omega), if_neg (by omega)]
        · intro h; simp [pshI] at h
        · intro mt s hl
          rw [if_neg (by omega), if_pos (by omega)] at hl ⊢
          simp only [List.length_append, List.length_cons, List.length_nil] at hl
          exact hd mt s (by omega)
      · refine Or.inl ⟨?_, ?_, ?_, ?_⟩
        · rw [if_neg (by omega), if_neg (by omega), if_neg (by omega)]
        · rw [if_neg (by omega), if_neg (by omega)]
        · rw [if_neg (by omega), if_neg (by omega)]
        · exact fun h => far _ (hM.goes x hx h)
theorem fold3_marked {c : List Ins} {m : List Bool} {i : Nat} (hM : Marked c m) : Marked (fold3 c i) m := by
  have key : ∀ x, x < c.length → ((fold3 c i).getD x dI).op = 21 ∨ ((fold3 c i).getD x dI).op = 1 ∨ (fold3 c i).getD x dI = c.getD x dI := by
    intro x hx
    unfold fold3
    rw [getD_set, getD_set, getD_set]
    split
    · exact Or.inr (Or.inl rfl)
    · split
      · exact Or.inl rfl
      · split
        · exact Or.inl rfl
        · exact Or.inr (Or.inr rfl)
  have hl : (fold3 c i).length = c.length := by unfold fold3; simp
  constructor
  · intro x hx hop j hj
    rw [hl] at hx
    rcases key x hx with h | h | h
    · rw [h] at hop; omega
    · rw [h] at hop; omega
    · rw [h] at hop hj; exact hM.goes x hx hop j hj
  · intro x hx hop
    rw [hl] at hx
    rcases key x hx with h | h | h
    · rw [h] at hop; omega
    · rw [h] at hop; omega
    · rw [h] at hop; exact hM.back x hx hop

/- what the machine does with numbers that are known -/
theorem pop_snoc (s : St) (n : Int) : pop { s with stack := s.stack ++ [n] } = .ok n s := by
  unfold pop
  simp
theorem pop_snoc2 (s : St) (a b : Int) : pop { s with stack := s.stack ++ [a, b] } = .ok b { s with stack := s.stack ++ [a] } := by
  have := pop_snoc { s with stack := s.stack ++ [a] } b
  simp only [List.append_assoc, List.singleton_append] at this
  exact this
theorem folds_some {op : Int} (h : foldsB op = true) (a b : Int) : isOp op = true ∧ reck op a b = some (known op a b) := by
  unfold foldsB at h
  simp only [Bool.or_eq_true, decide_eq_true_eq] at h
  unfold known reck isOp
  rcases h with (((h | h) | h) | h) | h <;> subst h <;> simp
theorem do_fold {op a b mt : Int} (x : Ins) (h10 : x.op = 10) (hx : x.a = op) (hf : foldsB op = true) (s : St) : doI mt x { s with stack := s.stack ++ [a, b] } = doI mt (pshI (known op a b)) s := by
  obtain ⟨h1, h2⟩ := folds_some hf a b
  rw [doI_math _ _ _ h10, hx, doI_push _ _ _ rfl]
  unfold math
  rw [if_pos h1, pop_snoc2]
  simp only [Res.bind]
  rw [pop_snoc]
  simp only [h2]
  rfl
theorem do_dec {n mt : Int} (x : Ins) (h : x.op = 12) (s : St) : doI mt x { s with stack := s.stack ++ [n] } = doI mt (decI n x.a) s := by
  rw [doI_zero _ _ _ h, pop_snoc]
  simp only [Res.bind]
  unfold decI
  split
  · rw [doI_jump _ _ _ rfl]; rfl
  · rw [doI_nop _ _ _ rfl]
theorem do_not {n mt : Int} (x : Ins) (h : x.op = 9) (s : St) : doI mt x { s with stack := s.stack ++ [n] } = doI mt (pshI (truth (n == 0))) s := by
  rw [doI_not _ _ _ h, pop_snoc, doI_push _ _ _ rfl]
  rfl
theorem do_truth {n mt : Int} (x : Ins) (h : x.op = 22) (s : St) : doI mt x { s with stack := s.stack ++ [n] } = doI mt (pshI (truth (n != 0))) s := by
  rw [doI_truth _ _ _ h, pop_snoc, doI_push _ _ _ rfl]
  rfl
theorem do_drop {n mt : Int} (x : Ins) (h : x.op = 17) (s : St) : doI mt x { s with stack := s.stack ++ [n] } = doI mt nopI s := by
  rw [doI_drop _ _ _ h, pop_snoc, doI_nop _ _ _ rfl]
  rfl

theorem folded_same {c : List Ins} {m : List Bool} {i : Nat} (hM : Marked c m) (hi : i < c.length) (h1 : (c.getD i dI).op = 1) : SameRun c (folded c m i) ∧ Marked (folded c m i) m := by
  have p0 : (if (0 : Int) = (i : Int) + 1 then [(c.getD i dI).a] else []) = [] := if_neg (by omega)
  have q0 : (if (0 : Int) = (i : Int) + 1 then [(c.getD i dI).a] else if (0 : Int) = (i : Int) + 2 then [(c.getD i dI).a, (c.getD (i + 1) dI).a] else []) = [] := by rw [if_neg (by omega), if_neg (by omega)]
  unfold folded
  split
  · rename_i h
    simp only [Bool.and_eq_true] at h
    obtain ⟨⟨ha, hb⟩, hf⟩ := h
    exact ⟨(fold3_puts hM hi h1 ha hb (fun mt s _ => do_fold _ (bare_of hb).2.1 rfl hf s)).same q0, fold3_marked hM⟩
  · split
    · rename_i h
      have hy : ((decI (c.getD i dI).a (c.getD (i + 1) dI).a).op = 11 ∨ (decI (c.getD i dI).a (c.getD (i + 1) dI).a).op = 12 ∨ (decI (c.getD i dI).a (c.getD (i + 1) dI).a).op = 13) → (12 : Int) = 12 ∧ (decI (c.getD i dI).a (c.getD (i + 1) dI).a).a = (c.getD (i + 1) dI).a := by
        unfold decI
        split
        · exact fun _ => ⟨rfl, rfl⟩
        · intro h; simp [nopI] at h
      refine ⟨(lay2_puts hM hi h1 h hy (fun mt s _ => do_dec _ (bare_of h).2.1 s)).same p0, lay2_marked hM h hy ?_⟩
      unfold decI
      split <;> simp [jmpI, nopI]
    · split
      · rename_i h
        exact ⟨(lay2_puts hM hi h1 h (fun h => by simp [pshI] at h) (fun mt s _ => do_not _ (bare_of h).2.1 s)).same p0, lay2_marked hM h (fun h => by simp [pshI] at h) (by simp [pshI])⟩
      · split
        · rename_i h
          exact ⟨(lay2_puts hM hi h1 h (fun h => by simp [pshI] at h) (fun mt s _ => do_truth _ (bare_of h).2.1 s)).same p0, lay2_marked hM h (fun h => by simp [pshI] at h) (by simp [pshI])⟩
        · split
          · rename_i h
            exact ⟨(lay2_puts hM hi h1 h (fun h => by simp [nopI] at h) (fun mt s _ => do_drop _ (bare_of h).2.1 s)).same p0, lay2_marked hM h (fun h => by simp [nopI] at h) (by simp [nopI])⟩
          · exact ⟨SameRun.refl c, hM⟩

end Mc
end Go.Proofs.Ytpahhhhfhnpmjaa
