/-
  Plain mathematics of texts of tokens: texts with a blank between them are read one behind the other; what is shown is read as it was; what is read is right.
-/
import Derived.Test.YtfiejjaocfcheaaDoorLex
namespace Go.Proofs.YtfiejjaocfcheaaDoor
open Go.RowKit

def pieceL (l : List UInt8) : Nat := if Lx.runL l = 0 then 1 else Lx.runL l
theorem pieceL_pos (l : List UInt8) : 0 < pieceL l := by unfold pieceL; split <;> omega
theorem runL_le (l : List UInt8) : Lx.runL l ≤ l.length := (List.takeWhile_prefix Lx.alnB (l := l)).length_le
theorem pieceL_le (c : UInt8) (l : List UInt8) : pieceL (c :: l) ≤ (c :: l).length := by
  have := runL_le (c :: l); unfold pieceL; split
  · simp
  · exact this
def lexL : List UInt8 → Option (List Tk)
  | [] => some []
  | c :: l =>
    if blankB c then lexL ((c :: l).drop (pieceL (c :: l)))
    else match tokOf (strOf ((c :: l).take (pieceL (c :: l)))) with
      | none => none
      | some t => (lexL ((c :: l).drop (pieceL (c :: l)))).map (t :: ·)
termination_by l => l.length
decreasing_by
  all_goals have := pieceL_pos (c :: l); simp only [List.length_drop, List.length_cons]; omega

theorem extract_str (s : ByteArray) (a n : Nat) : s.extract a (a + n) = strOf ((s.data.toList.drop a).take n) := by
  rw [← piece_data, strOf_back]
theorem lexAt_list : ∀ (n : Nat) (s : ByteArray) (a : Nat), s.size - a = n → lexAt s a = lexL (s.data.toList.drop a) := by
  intro n
  induction n using Nat.strongRecOn with
  | _ n ih =>
    intro s a hn
    by_cases h : a < s.size
    · have hd := drop_cons s a h
      have hp : Lx.pieceN s a = pieceL (s.data.toList.drop a) := rfl
      have hpos := Lx.pieceN_pos s a
      have ih' := ih (s.size - (a + Lx.pieceN s a)) (by omega) s (a + Lx.pieceN s a) rfl
      have hdd : s.data.toList.drop (a + Lx.pieceN s a) = (s.data.toList.drop a).drop (Lx.pieceN s a) := by rw [List.drop_drop]
      cases hb : blankB s[a] with
      | true =>
        rw [lexAt_blank s a h hb, ih', hdd, hp, hd, lexL, if_pos hb]
      | false =>
        have he := extract_str s a (Lx.pieceN s a)
        cases ht : tokOf (s.extract a (a + Lx.pieceN s a)) with
        | none =>
          rw [lexAt_none s a h hb ht]
          rw [he, hp, hd] at ht
          rw [hd, lexL, if_neg (by simp [hb]), ht]
        | some t =>
          rw [lexAt_some s a t h hb ht, ih', hdd]
          rw [he, hp, hd] at ht
          rw [hp, hd, lexL, if_neg (by simp [hb]), ht]
    · rw [lexAt_end s a h, List.drop_eq_nil_of_le (by rw [Lx.len_toList]; omega), lexL]
theorem lexAt_zero (s : ByteArray) : lexAt s 0 = lexL s.data.toList := by
  have := lexAt_list _ s 0 rfl
  rwa [List.drop_zero] at this

def comb (x y : Option (List Tk)) : Option (List Tk) := x.bind fun ts => y.map (ts ++ ·)
/- y is empty, or begins with a blank -/
def startsBlank : List UInt8 → Bool
  | [] => true
  | c :: _ => blankB c
theorem runL_app (x y : List UInt8) (hy : startsBlank y = true) : Lx.runL (x ++ y) = Lx.runL x := by
  induction x with
  | nil =>
    cases y with
    | nil => rfl
    | cons c r => simp [Lx.runL, (blank_plain (c := c) hy).1]
  | cons c r ih =>
    unfold Lx.runL at *
    rw [List.cons_append, List.takeWhile_cons, List.takeWhile_cons]
    split
    · simp [ih]
    · rfl
theorem lexL_app : ∀ (n : Nat) (x y : List UInt8), x.length = n → startsBlank y = true → lexL (x ++ y) = comb (lexL x) (lexL y) := by
  intro n
  induction n using Nat.strongRecOn with
  | _ n ih =>
    intro x y hn hy
    cases x with
    | nil =>
      rw [List.nil_append]
      show lexL y = comb (lexL []) (lexL y)
      rw [show lexL [] = some [] from by rw [lexL]]
      cases lexL y <;> rfl
    | cons c r =>
      have hpc : pieceL ((c :: r) ++ y) = pieceL (c :: r) := by unfold pieceL; rw [runL_app _ _ hy]
      have hle := pieceL_le c r
      have hpos := pieceL_pos (c :: r)
      have e1 : ((c :: r) ++ y).drop (pieceL ((c :: r) ++ y)) = (c :: r).drop (pieceL (c :: r)) ++ y := by
        rw [hpc, List.drop_append_of_le_length hle]
      have e2 : ((c :: r) ++ y).take (pieceL ((c :: r) ++ y)) = (c :: r).take (pieceL (c :: r)) := by
        rw [hpc, List.take_append_of_le_length hle]
      have ih' := ih ((c :: r).drop (pieceL (c :: r))).length (by rw [List.length_drop]; simp at hn ⊢; omega) _ y rfl hy
      rw [List.cons_append] at e1 e2 ⊢
      rw [lexL, e1, e2, ih', lexL]
      split
      · rfl
      · cases tokOf (strOf ((c :: r).take (pieceL (c :: r)))) with
        | none => rfl
        | some t =>
          cases lexL ((c :: r).drop (pieceL (c :: r))) with
          | none => rfl
          | some ts => cases lexL y <;> rfl
theorem lexL_blank (l : List UInt8) : lexL (32 :: l) = lexL l := by
  have hr : pieceL (32 :: l) = 1 := by
    unfold pieceL
    rw [if_pos (by unfold Lx.runL; rw [List.takeWhile_cons, if_neg (by decide)]; rfl)]
  rw [lexL, if_pos (by rfl), hr]
  rfl
/- one piece that is a token -/
theorem lexL_one (l : List UInt8) (t : Tk) (hne : l ≠ []) (hp : pieceL l = l.length) (hb : startsBlank l = false) (ht : tokOf (strOf l) = some t) : lexL l = some [t] := by
  cases l with
  | nil => exact absurd rfl hne
  | cons c r =>
    rw [lexL, hp, List.drop_length, List.take_length, ht, if_neg (by simpa [startsBlank] using hb)]
    rw [show lexL [] = some [] from by rw [lexL]]
    rfl
theorem piece_all (l : List UInt8) (hne : l ≠ []) (h : l.all Lx.alnB = true) : pieceL l = l.length ∧ startsBlank l = false ∧ Lx.signL l = false := by
  have hr : Lx.runL l = l.length := Lx.runL_at l l.length (by rw [List.take_length]; exact h) (Nat.le_refl _) (fun h => by omega)
  refine ⟨?_, ?_, ?_⟩
  · unfold pieceL
    rw [hr, if_neg (fun e => hne (List.eq_nil_of_length_eq_zero e))]
  · cases l with
    | nil => exact absurd rfl hne
    | cons c r => simp at h; exact (aln_plain h.1).2
  · match l with
    | [] => rfl
    | [c] => simp at h; exact (aln_plain h).1
    | _ :: _ :: _ => rfl
theorem dec_digits (u : Nat) : (Lib.decDigits u).all Lx.digB = true ∧ Lib.decDigits u ≠ [] ∧ Lx.valL (Lib.decDigits u) = u := by
  have one : ∀ d, d < 10 → Lx.digB (UInt8.ofNat (48 + d)) = true ∧ Lx.dv (UInt8.ofNat (48 + d)) = d := by
    intro d hd
    have e : (UInt8.ofNat (48 + d)).toNat = 48 + d := by rw [UInt8.toNat_ofNat']; omega
    constructor
    · unfold Lx.digB; rw [e]; simp; omega
    · unfold Lx.dv; rw [e]; omega
  induction u using Nat.strongRecOn with
  | _ u ih =>
    by_cases h : u < 10
    · rw [Lx.dec_small u h]
      refine ⟨?_, by simp, ?_⟩
      · rw [List.all_cons, (one u h).1]; rfl
      · have := Lx.valL_snoc [] (UInt8.ofNat (48 + u))
        rw [List.nil_append, (one u h).2] at this
        rw [this]; simp [Lx.valL]
    · obtain ⟨h1, h2, h3⟩ := ih (u / 10) (by omega)
      rw [Lib.decDigits, dif_neg h]
      have hm := one (u % 10) (by omega)
      refine ⟨?_, by simp, ?_⟩
      · rw [List.all_append, h1, List.all_cons, hm.1]; rfl
      · rw [Lx.valL_snoc, h3, hm.2]; omega
theorem dig_aln {l : List UInt8} (h : l.all Lx.digB = true) : l.all Lx.alnB = true := by
  rw [List.all_eq_true] at *
  intro c hc
  unfold Lx.alnB; rw [h c hc]; simp
theorem lex_tok {t : Tk} (hk : kindB t = true) (h : Tk.okB t = true) : lexL (txtL t) = some [t] := by
  obtain ⟨K, N, S⟩ := t
  unfold Tk.okB at h
  simp only at h
  by_cases k1 : K = 1
  · subst k1
    rw [if_pos rfl] at h
    simp only [Bool.and_eq_true, decide_eq_true_eq] at h
    obtain ⟨rfl, hn⟩ := h
    have hx : txtL ⟨1, 0, S⟩ = S.data.toList := by unfold txtL; rw [if_neg (by show ¬ (1 : Int) = 2; decide)]
    rw [hx]
    have hne : S.data.toList ≠ [] := fun e => by rw [e] at hn; cases hn
    have hall : S.data.toList.all Lx.alnB = true := by unfold Lx.nameB at hn; simp only [Bool.and_eq_true] at hn; exact hn.2
    obtain ⟨hp, hb, hs⟩ := piece_all _ hne hall
    refine lexL_one _ _ hne hp hb ?_
    unfold tokOf
    rw [strOf_list, hs, hn, strOf_back]
    rfl
  · rw [if_neg k1] at h
    by_cases k2 : K = 2
    · subst k2
      rw [if_pos rfl] at h
      simp only [Bool.and_eq_true, decide_eq_true_eq] at h
      obtain ⟨hS, h0, h1⟩ := h
      obtain ⟨n, rfl⟩ := Int.eq_ofNat_of_zero_le h0
      have hS' : S = ⟨#[]⟩ := by
        rw [Lib.toList_data, List.isEmpty_iff] at hS
        rw [← strOf_back S, hS]; rfl
      subst hS'
      have hx : txtL ⟨2, (n : Int), ⟨#[]⟩⟩ = Lib.decDigits n := by unfold txtL; rw [if_pos rfl]; simp
      rw [hx]
      obtain ⟨hd, hne, hv⟩ := dec_digits n
      obtain ⟨hp, hb, hs⟩ := piece_all _ hne (dig_aln hd)
      refine lexL_one _ _ hne hp hb ?_
      have hnm : Lx.nameB (Lib.decDigits n) = false := by
        unfold Lx.nameB
        cases hl : Lib.decDigits n with
        | nil => rfl
        | cons c r =>
          rw [hl] at hd
          simp only [List.all_cons, Bool.and_eq_true] at hd
          have := Lx.dig_range c hd.1
          have hc : Lx.letB c = false := by unfold Lx.letB; simp; omega
          simp [Lx.headLet, hc]
      have hok : Lx.numOk (Lib.decDigits n) = true := by
        rw [Lx.numOk_digits _ hne hd, hv]; simp; omega
      unfold tokOf
      rw [strOf_list, hs, hnm, hok, hv]
      rfl
    · rw [if_neg k2] at h
      simp only [Bool.and_eq_true, decide_eq_true_eq] at h
      obtain ⟨rfl, hs⟩ := h
      have k3 : K = 3 := by unfold kindB at hk; simp at hk; omega
      subst k3
      have hx : txtL ⟨3, 0, S⟩ = S.data.toList := by unfold txtL; rw [if_neg (by show ¬ (3 : Int) = 2; decide)]
      rw [hx]
      have hlen := sign_len hs
      match hl : S.data.toList, hlen with
      | [c], _ =>
        rw [hl] at hs
        have hc : Lx.signB c = true := hs
        refine lexL_one _ _ (by simp) ?_ (sign_plain hc).2 ?_
        · have hr : Lx.runL [c] = 0 := by
            unfold Lx.runL
            rw [List.takeWhile_cons, if_neg (by rw [(sign_plain hc).1]; simp)]
            rfl
          unfold pieceL
          rw [if_pos hr]
          rfl
        · unfold tokOf
          rw [strOf_list, hs, ← hl, strOf_back]
          rfl
theorem lex_rest : ∀ (r : List Tk), r.all kindB = true → r.all Tk.okB = true → lexL (r.flatMap fun t => 32 :: txtL t) = some r
  | [], _, _ => by rw [List.flatMap_nil, lexL]
  | t :: r, hk, ho => by
    simp only [List.all_cons, Bool.and_eq_true] at hk ho
    have ih := lex_rest r hk.2 ho.2
    rw [List.flatMap_cons, List.cons_append, lexL_blank]
    have hs : startsBlank (r.flatMap fun t => 32 :: txtL t) = true := by cases r <;> rfl
    rw [lexL_app _ _ _ rfl hs, lex_tok hk.1 ho.1, ih]
    rfl
/- A3: what is shown is read as it was. -/
theorem lex_show (ts : List Tk) (h : Right ts) : lexL (showL ts) = some ts := by
  cases ts with
  | nil => show lexL [] = some []; rw [lexL]
  | cons t r =>
    obtain ⟨hk, ho⟩ := h
    simp only [List.all_cons, Bool.and_eq_true] at hk ho
    have hs : startsBlank (r.flatMap fun t => 32 :: txtL t) = true := by cases r <;> rfl
    show lexL (txtL t ++ r.flatMap fun t => 32 :: txtL t) = _
    rw [lexL_app _ _ _ rfl hs, lex_tok hk.1 ho.1, lex_rest r hk.2 ho.2]
    rfl
/- A2: texts with a blank between them. -/
theorem lex_join (a b : List UInt8) : lexL (a ++ 32 :: b) = comb (lexL a) (lexL b) := by
  rw [lexL_app _ a (32 :: b) rfl rfl, lexL_blank]
/- what is read is right -/
theorem tokOf_right {s : ByteArray} {t : Tk} (h : tokOf s = some t) : kindB t = true ∧ Tk.okB t = true := by
  unfold tokOf at h
  split at h
  · rename_i hs
    cases h
    exact ⟨rfl, by unfold Tk.okB; simp [hs]⟩
  · split at h
    · rename_i hn
      cases h
      exact ⟨rfl, by unfold Tk.okB; simp [hn]⟩
    · split at h
      · rename_i hk
        cases h
        refine ⟨rfl, ?_⟩
        have hv : Lx.valL s.data.toList ≤ 1099511627775 := by unfold Lx.numOk at hk; simp at hk; exact hk.2
        unfold Tk.okB
        rw [Lib.toList_data]
        simp
        omega
      · cases h
theorem lexL_right : ∀ (n : Nat) (l : List UInt8) (ts : List Tk), l.length = n → lexL l = some ts → Right ts ∧ ts.length ≤ l.length := by
  intro n
  induction n using Nat.strongRecOn with
  | _ n ih =>
    intro l ts hn h
    cases l with
    | nil => rw [lexL] at h; cases h; exact ⟨⟨rfl, rfl⟩, Nat.le_refl _⟩
    | cons c r =>
      have hpos := pieceL_pos (c :: r)
      have hlen : ((c :: r).drop (pieceL (c :: r))).length < n := by rw [List.length_drop]; simp at hn ⊢; omega
      rw [lexL] at h
      split at h
      · obtain ⟨h1, h2⟩ := ih _ hlen _ ts rfl h
        exact ⟨h1, by omega⟩
      · cases ht : tokOf (strOf ((c :: r).take (pieceL (c :: r)))) with
        | none => rw [ht] at h; cases h
        | some t =>
          rw [ht] at h
          cases hr : lexL ((c :: r).drop (pieceL (c :: r))) with
          | none => rw [hr] at h; cases h
          | some us =>
            rw [hr] at h
            cases h
            obtain ⟨h1, h2⟩ := ih _ hlen _ us rfl hr
            obtain ⟨hk, ho⟩ := tokOf_right ht
            refine ⟨⟨?_, ?_⟩, ?_⟩
            · rw [List.all_cons, hk, h1.1]; rfl
            · rw [List.all_cons, ho, h1.2]; rfl
            · simp only [List.length_cons] at *; omega

end Go.Proofs.YtfiejjaocfcheaaDoor
