/-
  The tokens of right statements and blocks are read as these statements.
-/
import Derived.Test.YtcekpobmbmnplaaGreatDoorQf
namespace Go.Proofs.YtcekpobmbmnplaaGreatDoor
open Go.RowKit

theorem pX_full {x : Ex} (h : exOk x) (r : List Tk) (hr : Fol r) : pX (tE x ++ r) = some (x, r) := by
  unfold pX
  exact ex_full h _ r (by rw [List.length_append]; omega) hr
theorem pAs_full {xs : List Ex} (h : ∀ x ∈ xs, exOk x) (r : List Tk) : pAs (commas (tEs xs) ++ kTk tRp :: r) = some (xs, r) := by
  unfold pAs
  exact args_full h (fun x hx => ex_full (h x hx)) _ r (by rw [List.length_append]; omega)
def StFull (s : St) : Prop := ∀ (f : Nat) (r : List Tk), 3 * (tS s).length ≤ f → skB r tElse = false → pStmt f (tS s ++ r) = some (s, r)
theorem pEnded_full {s : St} {r : List Tk} : pEnded (some (s, kTk tSem :: r)) = some (s, r) := by
  show (if skB (kTk tSem :: r) tSem = true then _ else _) = _
  rw [if_pos (by rw [skK]; rfl)]; rfl
/- what cannot begin a statement -/
def noSt (t : ByteArray) : Bool := wordB t && !(t.data.toList == tIf.data.toList || (t.data.toList == tWhile.data.toList || (t.data.toList == tReturn.data.toList || t.data.toList == tOut.data.toList)))
theorem st_start {s : St} (h : stOk s) (t : ByteArray) (ht : noSt t = true) (r : List Tk) : skB (tS s ++ r) t = false := by
  unfold noSt at ht
  simp only [Bool.and_eq_true, Bool.not_eq_true', Bool.or_eq_false_iff] at ht
  obtain ⟨hw, h1', h2', h3', h4'⟩ := ht
  have sy : ∀ u : ByteArray, (t.data.toList == u.data.toList) = false → (u.data.toList == t.data.toList) = false := fun u h => by
    rw [Bool.eq_false_iff] at h ⊢
    intro e
    exact h (beq_iff_eq.2 (beq_iff_eq.1 e).symm)
  cases h with
  | @mk op m nm args body other h1 h2 h3 h4 h5 h6 h7 h8 =>
    have rf : ∀ rr, nameOk nm = true → (m.size = 0 ∨ nameOk m = true) → skB (refT m nm ++ rr) t = false := fun rr a b => by
      obtain ⟨c, l, e, hc⟩ := refT_hd a b rr
      rw [e, skW hc _ _ hw]
    simp only [tS]
    unfold stTok lnTok
    rcases st_ops h1 with rfl | rfl | rfl | rfl | rfl | rfl | rfl
    · obtain ⟨a, b⟩ := ref_ok rfl h2
      show skB (((refT m nm ++ _) ++ _) ++ r) t = false
      rw [List.append_assoc, List.append_assoc]; exact rf _ a b
    · obtain ⟨a, b⟩ := ref_ok rfl h2
      show skB (((refT m nm ++ _) ++ _) ++ r) t = false
      rw [List.append_assoc, List.append_assoc]; exact rf _ a b
    · obtain ⟨a, b⟩ := ref_ok rfl h2
      show skB (((refT m nm ++ _) ++ _) ++ r) t = false
      rw [List.append_assoc, List.append_assoc]; exact rf _ a b
    · exact (skK _ _ _).trans (sy _ h1')
    · exact (skK _ _ _).trans (sy _ h2')
    · exact (skK _ _ _).trans (sy _ h3')
    · exact (skK _ _ _).trans (sy _ h4')
theorem sts_start {l : List St} (h : ∀ s ∈ l, stOk s) (t : ByteArray) (ht : noSt t = true) (hb : (tRb.data.toList == t.data.toList) = false) (r : List Tk) : skB (tSs l ++ kTk tRb :: r) t = false := by
  cases l with
  | nil => show skB (kTk tRb :: r) t = false; rw [skK]; exact hb
  | cons s l => simp only [tSs, List.append_assoc]; exact st_start (h s (by simp)) t ht _
theorem tS_pos {s : St} (h : stOk s) : 0 < (tS s).length := by
  cases hl : tS s with
  | cons a l => simp
  | nil =>
    exfalso
    cases h with
    | @mk op m nm args body other h1 h2 h3 h4 h5 h6 h7 h8 =>
      simp only [tS, stTok] at hl
      split at hl
      · cases hl
      split at hl
      · cases hl
      · simp at hl
theorem sts_full : ∀ (l : List St), (∀ s ∈ l, stOk s) → (∀ s ∈ l, StFull s) → ∀ (f : Nat) (acc : List St) (r : List Tk), 3 * (tSs l).length < f → pStmts f acc (tSs l ++ kTk tRb :: r) = some (acc ++ l, r)
  | [], _, _, f, acc, r, hf => by
    obtain ⟨f, rfl⟩ : ∃ g, f = g + 1 := ⟨f - 1, by omega⟩
    show pStmts (f + 1) acc (kTk tRb :: r) = _
    rw [pStmts, if_pos (by rw [skK]; rfl), List.append_nil]; rfl
  | s :: l, ho, hs, f, acc, r, hf => by
    obtain ⟨f, rfl⟩ : ∃ g, f = g + 1 := ⟨f - 1, by omega⟩
    have hp := tS_pos (ho s (by simp))
    simp only [tSs, List.length_append] at hf
    simp only [tSs, List.append_assoc]
    rw [pStmts, if_neg (by rw [st_start (ho s (by simp)) _ (by decide)]; decide), hs s (by simp) f _ (by omega) (sts_start (fun x hx => ho x (by simp [hx])) _ (by decide) (by decide) r)]
    show pStmts f (acc ++ [s]) _ = _
    rw [sts_full l (fun x hx => ho x (by simp [hx])) (fun x hx => hs x (by simp [hx])) f (acc ++ [s]) r (by omega)]
    simp
theorem block_full {l : List St} (ho : ∀ s ∈ l, stOk s) (hs : ∀ s ∈ l, StFull s) (f : Nat) (r : List Tk) (hf : 3 * (brT (tSs l)).length ≤ f) : pBlock f (brT (tSs l) ++ r) = some (l, r) := by
  unfold brT at hf ⊢
  simp only [List.length_append, List.length_cons, List.length_nil] at hf
  obtain ⟨f, rfl⟩ : ∃ g, f = g + 1 := ⟨f - 1, by omega⟩
  rw [show (kTk tLb :: (tSs l ++ [kTk tRb])) ++ r = kTk tLb :: (tSs l ++ kTk tRb :: r) from by simp]
  rw [pBlock, if_pos (by rw [skK]; rfl)]
  show pStmts f [] (tSs l ++ kTk tRb :: r) = _
  rw [sts_full l ho hs f [] r (by omega)]; rfl
theorem brT_fol (x r : List Tk) : Fol (brT x ++ r) := folK (by decide)
theorem named_start {m nm : ByteArray} (a : nameOk nm = true) (b : m.size = 0 ∨ nameOk m = true) (f : Nat) (r : List Tk) : pStmt (f + 1) (refT m nm ++ r) = pEnded (pNamed (refT m nm ++ r)) := by
  obtain ⟨c, l, e, hc⟩ := refT_hd a b r
  rw [e]
  exact pStmt_named (skW hc _ _ (by decide)) (skW hc _ _ (by decide)) (skW hc _ _ (by decide)) (skW hc _ _ (by decide))
theorem st_full {s : St} (h : stOk s) : StFull s := by
  induction h with
  | @mk op m nm args body other h1 h2 h3 h4 h5 h6 h7 h8 ih1 ih2 =>
    intro f r hf hr
    have hp := tS_pos (.mk h1 h2 h3 h4 h5 h6 h7 h8)
    obtain ⟨f, rfl⟩ : ∃ g, f = g + 1 := ⟨f - 1, by omega⟩
    simp only [tS] at hf ⊢
    rcases st_ops h1 with rfl | rfl | rfl | rfl | rfl | rfl | rfl
    · obtain ⟨a, b⟩ := ref_ok rfl h2
      obtain ⟨y, rfl⟩ := len1 (count_is (h := stS 1) (n := 1) h3 rfl rfl)
      obtain rfl := h5.resolve_left (by decide)
      obtain rfl := h6.resolve_left (by decide)
      rw [show stTok 1 m nm (tEs [y]) (tSs []) (tSs []) (([] : List St).length) ++ r = refT m nm ++ kTk tEq :: (tE y ++ kTk tSem :: r) from by simp [stTok, lnTok, tEs]]
      rw [named_start a b]
      unfold pNamed
      rw [pRef_full a b _ (by rw [skK]; decide)]
      show pEnded (if skB (kTk tEq :: (tE y ++ kTk tSem :: r)) tEq = true then (match pX (tE y ++ kTk tSem :: r) with | none => none | some (x, l2) => some (St.mk 1 m nm [x] [] [], l2)) else _) = _
      rw [if_pos (by rw [skK]; rfl), pX_full (h4 y (by simp)) _ (folK (by decide))]
      exact pEnded_full
    · obtain ⟨a, b⟩ := ref_ok rfl h2
      obtain ⟨y, z, rfl⟩ := len2 (count_is (h := stS 2) (n := 2) h3 rfl rfl)
      obtain rfl := h5.resolve_left (by decide)
      obtain rfl := h6.resolve_left (by decide)
      rw [show stTok 2 m nm (tEs [y, z]) (tSs []) (tSs []) (([] : List St).length) ++ r = refT m nm ++ kTk tLs :: (tE y ++ kTk tRs :: kTk tEq :: (tE z ++ kTk tSem :: r)) from by simp [stTok, lnTok, tEs]]
      rw [named_start a b]
      unfold pNamed
      rw [pRef_full a b _ (by rw [skK]; decide)]
      show pEnded (if skB (kTk tLs :: (tE y ++ kTk tRs :: kTk tEq :: (tE z ++ kTk tSem :: r))) tEq = true then _ else if skB (kTk tLs :: (tE y ++ kTk tRs :: kTk tEq :: (tE z ++ kTk tSem :: r))) tLs = true then (match pX (tE y ++ kTk tRs :: kTk tEq :: (tE z ++ kTk tSem :: r)) with
        | none => none
        | some (x, l2) => if skB l2 tRs then (if skB l2.tail tEq then (match pX l2.tail.tail with | none => none | some (y, l3) => some (St.mk 2 m nm [x, y] [] [], l3)) else none) else none) else _) = _
      rw [if_neg (by rw [skK]; decide), if_pos (by rw [skK]; rfl), pX_full (h4 y (by simp)) _ (folK (by decide))]
      show pEnded (if skB (kTk tRs :: kTk tEq :: (tE z ++ kTk tSem :: r)) tRs = true then (if skB (kTk tEq :: (tE z ++ kTk tSem :: r)) tEq = true then (match pX (tE z ++ kTk tSem :: r) with | none => none | some (w, l3) => some (St.mk 2 m nm [y, w] [] [], l3)) else none) else none) = _
      rw [if_pos (by rw [skK]; rfl), if_pos (by rw [skK]; rfl), pX_full (h4 z (by simp)) _ (folK (by decide))]
      exact pEnded_full
    · obtain ⟨a, b⟩ := ref_ok rfl h2
      obtain rfl := h5.resolve_left (by decide)
      obtain rfl := h6.resolve_left (by decide)
      rw [show stTok 3 m nm (tEs args) (tSs []) (tSs []) (([] : List St).length) ++ r = refT m nm ++ kTk tLp :: (commas (tEs args) ++ kTk tRp :: kTk tSem :: r) from by simp [stTok, lnTok]]
      rw [named_start a b]
      unfold pNamed
      rw [pRef_full a b _ (by rw [skK]; decide)]
      show pEnded (if skB (kTk tLp :: (commas (tEs args) ++ kTk tRp :: kTk tSem :: r)) tEq = true then _ else if skB (kTk tLp :: (commas (tEs args) ++ kTk tRp :: kTk tSem :: r)) tLs = true then _ else if skB (kTk tLp :: (commas (tEs args) ++ kTk tRp :: kTk tSem :: r)) tLp = true then (match pAs (commas (tEs args) ++ kTk tRp :: kTk tSem :: r) with | none => none | some (xs, l2) => some (St.mk 3 m nm xs [] [], l2)) else _) = _
      rw [if_neg (by rw [skK]; decide), if_neg (by rw [skK]; decide), if_pos (by rw [skK]; rfl), pAs_full h4]
      exact pEnded_full
    · obtain ⟨rfl, rfl⟩ := ref_none (sh := stS 4) rfl h2
      obtain ⟨y, rfl⟩ := len1 (count_is (h := stS 4) (n := 1) h3 rfl rfl)
      have eo : stTok 4 ⟨#[]⟩ ⟨#[]⟩ (tEs [y]) (tSs body) (tSs other) other.length = kTk tIf :: (tE y ++ (brT (tSs body) ++ (if other.length = 0 then [] else kTk tElse :: brT (tSs other)))) := by simp [stTok, tEs]
      rw [eo] at hf ⊢
      simp only [List.length_append, List.length_cons] at hf
      rw [show (kTk tIf :: (tE y ++ (brT (tSs body) ++ (if other.length = 0 then [] else kTk tElse :: brT (tSs other))))) ++ r = kTk tIf :: (tE y ++ (brT (tSs body) ++ ((if other.length = 0 then [] else kTk tElse :: brT (tSs other)) ++ r))) from by simp]
      rw [pStmt_if (by rw [skK]; rfl)]
      show pBranch f (tE y ++ (brT (tSs body) ++ ((if other.length = 0 then [] else kTk tElse :: brT (tSs other)) ++ r))) = _
      unfold pBranch
      rw [pX_full (h4 y (by simp)) _ (brT_fol _ _)]
      show (match pBlock f (brT (tSs body) ++ ((if other.length = 0 then [] else kTk tElse :: brT (tSs other)) ++ r)) with
        | none => none
        | some (b, l2) => if skB l2 tElse then (match pBlock f l2.tail with | none => none | some (o, l3) => if o.length = 0 then none else some (St.mk 4 ⟨#[]⟩ ⟨#[]⟩ [y] b o, l3)) else some (St.mk 4 ⟨#[]⟩ ⟨#[]⟩ [y] b [], l2)) = _
      rw [block_full h7 ih1 f _ (by omega)]
      by_cases h0 : other.length = 0
      · obtain rfl := List.eq_nil_of_length_eq_zero h0
        show (if skB r tElse = true then _ else _) = _
        rw [if_neg (by rw [hr]; decide)]; rfl
      · rw [if_neg h0] at hf ⊢
        simp only [List.length_cons] at hf
        show (if skB (kTk tElse :: (brT (tSs other) ++ r)) tElse = true then (match pBlock f (brT (tSs other) ++ r) with | none => none | some (o, l3) => if o.length = 0 then none else some (St.mk 4 ⟨#[]⟩ ⟨#[]⟩ [y] body o, l3)) else _) = _
        rw [if_pos (by rw [skK]; rfl), block_full h8 ih2 f _ (by omega)]
        show (if other.length = 0 then none else _) = _
        rw [if_neg h0]
    · obtain ⟨rfl, rfl⟩ := ref_none (sh := stS 5) rfl h2
      obtain ⟨y, rfl⟩ := len1 (count_is (h := stS 5) (n := 1) h3 rfl rfl)
      obtain rfl := h6.resolve_left (by decide)
      have eo : stTok 5 ⟨#[]⟩ ⟨#[]⟩ (tEs [y]) (tSs body) (tSs []) (([] : List St).length) = kTk tWhile :: (tE y ++ brT (tSs body)) := by simp [stTok, tEs]
      rw [eo] at hf ⊢
      simp only [List.length_append, List.length_cons] at hf
      rw [show (kTk tWhile :: (tE y ++ brT (tSs body))) ++ r = kTk tWhile :: (tE y ++ (brT (tSs body) ++ r)) from by simp]
      rw [pStmt_while (by rw [skK]; decide) (by rw [skK]; rfl)]
      show (match pX (tE y ++ (brT (tSs body) ++ r)) with
        | none => none
        | some (x, l1) => match pBlock f l1 with | none => none | some (b, l2) => some (St.mk 5 ⟨#[]⟩ ⟨#[]⟩ [x] b [], l2)) = _
      rw [pX_full (h4 y (by simp)) _ (brT_fol _ _)]
      show (match pBlock f (brT (tSs body) ++ r) with | none => none | some (b, l2) => some (St.mk 5 ⟨#[]⟩ ⟨#[]⟩ [y] b [], l2)) = _
      rw [block_full h7 ih1 f _ (by omega)]
    · obtain ⟨rfl, rfl⟩ := ref_none (sh := stS 6) rfl h2
      obtain ⟨y, rfl⟩ := len1 (count_is (h := stS 6) (n := 1) h3 rfl rfl)
      obtain rfl := h5.resolve_left (by decide)
      obtain rfl := h6.resolve_left (by decide)
      rw [show stTok 6 ⟨#[]⟩ ⟨#[]⟩ (tEs [y]) (tSs []) (tSs []) (([] : List St).length) ++ r = kTk tReturn :: (tE y ++ kTk tSem :: r) from by simp [stTok, lnTok, tEs]]
      rw [pStmt_return (by rw [skK]; decide) (by rw [skK]; decide) (by rw [skK]; rfl)]
      show pEnded (match pX (tE y ++ kTk tSem :: r) with | none => none | some (x, l1) => some (St.mk 6 ⟨#[]⟩ ⟨#[]⟩ [x] [] [], l1)) = _
      rw [pX_full (h4 y (by simp)) _ (folK (by decide))]
      exact pEnded_full
    · obtain ⟨rfl, rfl⟩ := ref_none (sh := stS 7) rfl h2
      obtain ⟨y, rfl⟩ := len1 (count_is (h := stS 7) (n := 1) h3 rfl rfl)
      obtain rfl := h5.resolve_left (by decide)
      obtain rfl := h6.resolve_left (by decide)
      rw [show stTok 7 ⟨#[]⟩ ⟨#[]⟩ (tEs [y]) (tSs []) (tSs []) (([] : List St).length) ++ r = kTk tOut :: (tE y ++ kTk tSem :: r) from by simp [stTok, lnTok, tEs]]
      rw [pStmt_out (by rw [skK]; decide) (by rw [skK]; decide) (by rw [skK]; decide) (by rw [skK]; rfl)]
      show pEnded (match pX (tE y ++ kTk tSem :: r) with | none => none | some (x, l1) => some (St.mk 7 ⟨#[]⟩ ⟨#[]⟩ [x] [] [], l1)) = _
      rw [pX_full (h4 y (by simp)) _ (folK (by decide))]
      exact pEnded_full
theorem pB_full {l : List St} (h : ∀ s ∈ l, stOk s) (r : List Tk) : pB (brT (tSs l) ++ r) = some (l, r) := by
  unfold pB
  exact block_full h (fun s hs => st_full (h s hs)) _ r (by rw [List.length_append]; omega)
end Go.Proofs.YtcekpobmbmnplaaGreatDoor
