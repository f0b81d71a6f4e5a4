/-
  How many tokens a right module has at the most.
-/
import Derived.Test.YtcekpobmbmnplaaGreatDoorQd
namespace Go.Proofs.YtcekpobmbmnplaaGreatDoor
open Go.RowKit

def TB : Nat → Nat
  | 0 => 0
  | k + 1 => 3 * TB k + 7
def BB : Nat → Nat
  | 0 => 0
  | k + 1 => 76700 + 20 * BB k
theorem commas_len : ∀ (xs : List (List Tk)) (t : Nat), (∀ x ∈ xs, x.length ≤ t) → (commas xs).length ≤ xs.length * (t + 1)
  | [], _, _ => by simp [commas]
  | [x], t, h => by
    have := h x (by simp)
    simp [commas]; omega
  | x :: y :: r, t, h => by
    have h1 := h x (by simp)
    have h2 := commas_len (y :: r) t (fun z hz => h z (by simp [hz]))
    have e : (x :: y :: r).length * (t + 1) = (y :: r).length * (t + 1) + (t + 1) := by
      show ((y :: r).length + 1) * (t + 1) = _
      rw [Nat.succ_mul]
    rw [e]
    simp only [commas, List.length_append, List.length_cons] at h2 ⊢
    omega
theorem commas3 {xs : List (List Tk)} {t : Nat} (h : ∀ x ∈ xs, x.length ≤ t) (h3 : xs.length ≤ 3) : (commas xs).length ≤ 3 * t + 2 := by
  match xs, h3 with
  | [], _ => simp [commas]
  | [x], _ =>
    have := h x (by simp)
    simp [commas]; omega
  | [x, y], _ =>
    have h1 := h x (by simp)
    have h2 := h y (by simp)
    simp [commas]; omega
  | [x, y, z], _ =>
    have h1 := h x (by simp)
    have h2 := h y (by simp)
    have h4 := h z (by simp)
    simp [commas]; omega
theorem getD_len {xs : List (List Tk)} {t : Nat} (h : ∀ x ∈ xs, x.length ≤ t) (i : Nat) : (xs.getD i []).length ≤ t := by
  rw [List.getD_eq_getElem?_getD]
  rcases Nat.lt_or_ge i xs.length with hi | hi
  · rw [List.getElem?_eq_getElem hi]; exact h _ (List.getElem_mem hi)
  · rw [List.getElem?_eq_none hi]; simp
theorem refT_len (m n : ByteArray) : (refT m n).length ≤ 3 := by unfold refT; split <;> simp
theorem exTok_len {op n : Int} {m nm : ByteArray} {xs : List (List Tk)} {t : Nat} (h : ∀ x ∈ xs, x.length ≤ t) (h3 : xs.length ≤ 3) : (exTok op n m nm xs).length ≤ 3 * t + 7 := by
  have a := refT_len m nm
  have b := commas3 h h3
  have c := getD_len h 0
  have d := getD_len h 1
  unfold exTok
  split; · simp
  split; · simp
  split; · omega
  split; · simp only [List.length_append, List.length_cons, List.length_nil]; omega
  split; · simp only [List.length_append, List.length_cons, List.length_nil]; omega
  split; · simp only [List.length_cons]; omega
  · simp only [List.length_append, List.length_cons, List.length_nil]; omega
theorem ex_len : ∀ (k : Nat) (l : List Ex), exMany k l = false → (∀ x ∈ l, (tE x).length ≤ TB k) ∧ l.length ≤ 3
  | 0, l, h => by
    simp [exMany] at h
    rw [h]
    exact ⟨(fun x hx => by cases hx), by simp⟩
  | k + 1, l, h => by
    simp only [exMany, Bool.or_eq_false_iff] at h
    have h3 : l.length ≤ 3 := by have := of_decide_eq_false h.1; omega
    refine ⟨fun x hx => ?_, h3⟩
    have a2 : exMany k x.args = false := by
      have := h.2
      rw [List.any_eq_false] at this
      simpa using this x hx
    obtain ⟨i1, i2⟩ := ex_len k x.args a2
    obtain ⟨op, n, m, nm, args⟩ := x
    simp only [tE]
    exact exTok_len (fun y hy => by
      obtain ⟨z, hz, rfl⟩ := tEs_mem hy
      exact i1 z hz) (by rw [tEs_len]; exact i2)
theorem lnTok_len {op : Int} {m nm : ByteArray} {xs : List (List Tk)} {t : Nat} (h : ∀ x ∈ xs, x.length ≤ t) (h3 : xs.length ≤ 3) : (lnTok op m nm xs).length ≤ 3 * t + 7 := by
  have a := refT_len m nm
  have b := commas3 h h3
  have c := getD_len h 0
  have d := getD_len h 1
  unfold lnTok
  split; · simp only [List.length_append, List.length_cons]; omega
  split; · simp only [List.length_append, List.length_cons]; omega
  split; · simp only [List.length_append, List.length_cons, List.length_nil]; omega
  split; · simp only [List.length_cons]; omega
  · simp only [List.length_cons]; omega
theorem sts_len {t : Nat} : ∀ {l : List St}, (∀ s ∈ l, (tS s).length ≤ t) → (tSs l).length ≤ l.length * t
  | [], _ => by simp [tSs]
  | s :: r, h => by
    have h1 := h s (by simp)
    have h2 := sts_len (l := r) (fun x hx => h x (by simp [hx]))
    simp only [tSs, List.length_append, List.length_cons]
    rw [Nat.succ_mul]; omega
theorem st_len : ∀ (k : Nat) (l : List St), stMany k l = false → (tSs l).length ≤ BB k
  | 0, l, h => by simp [stMany] at h
  | k + 1, l, h => by
    simp only [stMany, Bool.or_eq_false_iff] at h
    have h10 : l.length ≤ 10 := by have := of_decide_eq_false h.1; omega
    have key : ∀ s ∈ l, (tS s).length ≤ 7670 + 2 * BB k := by
      intro x hx
      have a2 := h.2
      rw [List.any_eq_false] at a2
      have a2 := a2 x hx
      simp only [Bool.not_eq_true, Bool.or_eq_false_iff, Bool.and_eq_false_iff] at a2
      obtain ⟨op, m, nm, args, body, other⟩ := x
      obtain ⟨i1, i2⟩ := ex_len 6 args a2.1
      have i1' : ∀ y ∈ tEs args, y.length ≤ 2548 := fun y hy => by
        obtain ⟨z, hz, rfl⟩ := tEs_mem hy
        exact i1 z hz
      have ln := lnTok_len (op := op) (m := m) (nm := nm) i1' (by rw [tEs_len]; exact i2)
      have g0 := getD_len i1' 0
      have hb : (tSs body).length ≤ BB k := by
        rcases a2.2.1 with h | h
        · have : body = [] := dec_nil h.2
          rw [this]; simp [tSs]
        · exact st_len k body h
      have ho : (tSs other).length ≤ BB k := by
        rcases a2.2.2 with h | h
        · have : other = [] := dec_nil h
          rw [this]; simp [tSs]
        · exact st_len k other h
      simp only [tS]
      unfold stTok brT
      split
      · split
        · simp only [List.length_append, List.length_cons, List.length_nil]; omega
        · simp only [List.length_append, List.length_cons, List.length_nil]; omega
      split
      · simp only [List.length_append, List.length_cons, List.length_nil]; omega
      · simp only [List.length_append, List.length_cons, List.length_nil]; omega
    have h1 := sts_len key
    have h2 : l.length * (7670 + 2 * BB k) ≤ 10 * (7670 + 2 * BB k) := Nat.mul_le_mul_right _ h10
    show _ ≤ 76700 + 20 * BB k
    omega
theorem flat_len {α : Type} (f : α → List Tk) (t : Nat) : ∀ (l : List α), (∀ x ∈ l, (f x).length ≤ t) → (l.flatMap f).length ≤ l.length * t
  | [], _ => by simp
  | x :: r, h => by
    have h1 := h x (by simp)
    have h2 := flat_len f t r (fun y hy => h y (by simp [hy]))
    simp only [List.flatMap_cons, List.length_append, List.length_cons]
    rw [Nat.succ_mul]; omega
theorem pubT_len (b : Bool) : (pubT b).length ≤ 1 := by unfold pubT; split <;> simp
theorem tD_len (d : De) : (tD d).length ≤ 7 := by
  have := pubT_len d.pub
  unfold tD
  rw [List.length_append]
  split
  · simp only [List.length_cons, List.length_nil]; omega
  split
  · simp only [List.length_cons, List.length_nil]; omega
  · simp only [List.length_cons, List.length_nil]; omega
theorem tM_len {m : Mo} (h : m.many = false) : (tM m).length ≤ 2000000000000 := by
  unfold Mo.many at h
  simp only [Bool.or_eq_false_iff] at h
  obtain ⟨h1, h2, h3, h4, h5⟩ := h
  rw [List.any_eq_false] at h4 h5
  have u1 : m.uses.length ≤ 3 := by have := of_decide_eq_false h1; omega
  have u2 : m.decls.length ≤ 10 := by have := of_decide_eq_false h2; omega
  have u3 : m.procs.length ≤ 6 := by have := of_decide_eq_false h3; omega
  have bb : BB 6 = 258357890700 := by decide
  have hb : ∀ b ∈ m.bodies, (tSs b).length ≤ 258357890700 := fun b hb => by
    have := st_len 6 b (by simpa using h5 b hb)
    omega
  have k1 : (lstT tUse m.uses).length ≤ m.uses.length * 3 := flat_len _ 3 _ (fun _ _ => by simp)
  have k2 : (m.decls.flatMap tD).length ≤ m.decls.length * 7 := flat_len _ 7 _ (fun d _ => tD_len d)
  have k3 : (m.procs.flatMap tP).length ≤ m.procs.length * 258357890800 := flat_len _ _ _ (fun p hp => by
    have q := h4 p hp
    simp only [Bool.not_eq_true, Bool.or_eq_false_iff] at q
    have q1 : p.params.length ≤ 3 := by have := of_decide_eq_false q.1; omega
    have q2 : p.locals.length ≤ 4 := by have := of_decide_eq_false q.2; omega
    have q3 := hb p.body (by unfold Mo.bodies; simp; exact Or.inl ⟨p, hp, rfl⟩)
    have q4 : (lstT tLocal p.locals).length ≤ p.locals.length * 3 := flat_len _ 3 _ (fun _ _ => by simp)
    have q5 : (namesC p.params).length ≤ 3 * 1 + 2 := commas3 (fun x hx => by
      obtain ⟨n, _, rfl⟩ := List.mem_map.1 hx
      simp) (by simpa using q1)
    have q6 := pubT_len p.pub
    unfold tP brT
    simp only [List.length_append, List.length_cons, List.length_nil]
    omega)
  have k4 := hb m.main (by unfold Mo.bodies; simp)
  have k5 : m.procs.length * 258357890800 ≤ 6 * 258357890800 := Nat.mul_le_mul_right _ u3
  unfold tM brT
  simp only [List.length_append, List.length_cons, List.length_nil]
  omega
theorem r_names {l : List ByteArray} (h : ∀ n ∈ l, nameOk n = true) : Right (namesC l) := r_commas _ (fun x hx => by
  obtain ⟨n, hn, rfl⟩ := List.mem_map.1 hx
  exact r_name (h n hn))
theorem r_flat {α : Type} (f : α → List Tk) : ∀ (l : List α), (∀ x ∈ l, Right (f x)) → Right (l.flatMap f)
  | [], _ => .nil
  | x :: r, h => by
    simp only [List.flatMap_cons]
    exact (h x (by simp)).append (r_flat f r (fun y hy => h y (by simp [hy])))
theorem r_lst {t : ByteArray} (ht : Right [kTk t]) {l : List ByteArray} (h : ∀ n ∈ l, nameOk n = true) : Right (lstT t l) := r_flat _ _ (fun n hn => .cons ht (.cons (r_name (h n hn)) (r_key (by decide))))
theorem r_pub (b : Bool) : Right (pubT b) := by
  unfold pubT
  split
  · exact r_key (by decide)
  · exact .nil
theorem r_de {d : De} (h : nameOk d.name = true ∧ sizeOk d = true ∧ 1 ≤ d.kind ∧ d.kind ≤ 3) : Right (tD d) := by
  obtain ⟨h1, h2, h3, h4⟩ := h
  refine (r_pub _).append ?_
  unfold sizeOk at h2
  split
  · rename_i hk
    rw [if_pos hk] at h2
    unfold numOkB at h2
    simp at h2
    exact .cons (r_key (by decide)) (.cons (r_name h1) (.cons (r_key (by decide)) (.cons (r_num h2.1 h2.2) (r_key (by decide)))))
  split
  · exact .cons (r_key (by decide)) (.cons (r_name h1) (r_key (by decide)))
  · rename_i hk1 hk2
    rw [if_neg hk1, if_pos (by omega)] at h2
    simp at h2
    exact .cons (r_key (by decide)) (.cons (r_name h1) (.cons (r_key (by decide)) (.cons (r_num (by omega) (by omega)) (.cons (r_key (by decide)) (r_key (by decide))))))
theorem r_pr {p : Pr} (h : nameOk p.name = true ∧ (∀ n ∈ p.params, nameOk n = true) ∧ (∀ n ∈ p.locals, nameOk n = true) ∧ (∀ s ∈ p.body, stOk s)) : Right (tP p) :=
  (r_pub _).append (.cons (r_key (by decide)) (.cons (r_name h.1) (.cons (r_key (by decide)) ((r_names h.2.1).append (.cons (r_key (by decide)) ((r_lst (r_key (by decide)) h.2.2.1).append (r_br (r_sts' h.2.2.2))))))))
theorem r_mo {m : Mo} (h : moOk m) : Right (tM m) :=
  .cons (r_key (by decide)) (.cons (r_name h.name) (.cons (r_key (by decide)) ((r_lst (r_key (by decide)) h.uses).append ((r_flat _ _ (fun d hd => r_de (h.decls d hd))).append ((r_flat _ _ (fun p hp => r_pr (h.procs p hp))).append (.cons (r_key (by decide)) ((r_br (r_sts' h.main)).append (r_key (by decide)))))))))
end Go.Proofs.YtcekpobmbmnplaaGreatDoor
