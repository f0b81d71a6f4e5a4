/-
  What is written is read again: the tokens of a right expression are read as that expression.
-/
import Derived.Test.YtcekpobmbmnplaaGreatDoorQe
namespace Go.Proofs.YtcekpobmbmnplaaGreatDoor
open Go.RowKit

theorem skK (t u : ByteArray) (l : List Tk) : skB (kTk t :: l) u = (t.data.toList == u.data.toList) := by
  show (t.toList == u.toList) = _
  rw [Lib.toList_data, Lib.toList_data]
theorem skN (n : Int) (u : ByteArray) (l : List Tk) (hu : 0 < u.size) : skB (nTk n :: l) u = false := by
  show ((⟨#[]⟩ : ByteArray).toList == u.toList) = false
  rw [Lib.toList_data, Lib.toList_data]
  have := Lx.len_toList u
  cases h : u.data.toList with
  | nil => rw [h] at this; simp at this; omega
  | cons a r => rfl
def wordB (u : ByteArray) : Bool := kept.contains u.data.toList || !Lx.nameB u.data.toList
theorem skW {n : ByteArray} (hn : nameOk n = true) (u : ByteArray) (l : List Tk) (hu : wordB u = true) : skB (wTk n :: l) u = false := by
  show (n.toList == u.toList) = false
  rw [Lib.toList_data, Lib.toList_data]
  cases h : (n.data.toList == u.data.toList) with
  | false => rfl
  | true =>
    exfalso
    have e := beq_iff_eq.1 h
    unfold nameOk keptB at hn
    unfold wordB at hu
    rw [e, Bool.and_eq_true, Bool.not_eq_true'] at hn
    rw [hn.1, hn.2] at hu
    cases hu
theorem pNameW {n : ByteArray} (hn : nameOk n = true) (l : List Tk) : pName (wTk n :: l) = some (n, l) := by
  have hk : keptP n = false := by
    rw [keptP_eq]
    unfold nameOk at hn
    rw [Bool.and_eq_true, Bool.not_eq_true'] at hn
    exact hn.1
  show (if ((1 : Int) == 1 && !keptP n) = true then some (n, l) else none) = some (n, l)
  rw [hk]; rfl
theorem pNumN (n : Int) (l : List Tk) : pNum (nTk n :: l) = some (n, l) := rfl
def Fol (r : List Tk) : Prop := skB r tDot = false ∧ skB r tLs = false ∧ skB r tLp = false
theorem folK {t : ByteArray} {l : List Tk} (h : (t.data.toList == tDot.data.toList || (t.data.toList == tLs.data.toList || t.data.toList == tLp.data.toList)) = false) : Fol (kTk t :: l) := by
  simp only [Bool.or_eq_false_iff] at h
  exact ⟨by rw [skK]; exact h.1, by rw [skK]; exact h.2.1, by rw [skK]; exact h.2.2⟩
theorem size_nil {s : ByteArray} (hs : s.size = 0) : s = ⟨#[]⟩ := by
  have : s.data.toList = [] := List.eq_nil_of_length_eq_zero (by rw [Lx.len_toList]; exact hs)
  exact ByteArray.ext (Array.ext' this)
theorem pRef_full {m n : ByteArray} (hn : nameOk n = true) (hm : m.size = 0 ∨ nameOk m = true) (r : List Tk) (hr : skB r tDot = false) : pRef (refT m n ++ r) = some ((m, n), r) := by
  unfold refT
  split
  · rename_i h0
    obtain rfl := size_nil h0
    show pRef (wTk n :: r) = _
    unfold pRef
    rw [pNameW hn]
    show (if skB r tDot = true then _ else _) = _
    rw [if_neg (by rw [hr]; decide)]
  · rename_i h0
    have hm' := hm.resolve_left h0
    show pRef (wTk m :: kTk tDot :: wTk n :: r) = _
    unfold pRef
    rw [pNameW hm']
    show (if skB (kTk tDot :: wTk n :: r) tDot = true then (match pName (wTk n :: r) with | none => none | some (b, l2) => some ((m, b), l2)) else _) = _
    rw [if_pos (by rw [skK]; rfl), pNameW hn]
theorem refT_hd {m n : ByteArray} (hn : nameOk n = true) (hm : m.size = 0 ∨ nameOk m = true) (r : List Tk) : ∃ a l, refT m n ++ r = wTk a :: l ∧ nameOk a = true := by
  unfold refT
  split
  · exact ⟨n, r, rfl, hn⟩
  · rename_i h0
    exact ⟨m, kTk tDot :: wTk n :: r, rfl, hm.resolve_left h0⟩
theorem pExpr_ref {f : Nat} {m n : ByteArray} (hn : nameOk n = true) (hm : m.size = 0 ∨ nameOk m = true) (r : List Tk) (hr : skB r tDot = false) : pExpr (f + 1) (refT m n ++ r) =
    if skB r tLs then (match pExpr f r.tail with | none => none | some (x, l2) => if skB l2 tRs then some (.mk 4 0 m n [x], l2.tail) else none)
    else if skB r tLp then (match pArgs f r.tail with | none => none | some (xs, l2) => some (.mk 5 0 m n xs, l2))
    else some (.mk 3 0 m n [], r) := by
  have hR := pRef_full hn hm r hr
  obtain ⟨a, l, e, ha⟩ := refT_hd hn hm r
  rw [e] at hR ⊢
  rw [pExpr, if_neg (by show ¬ (1 : Int) = 2; decide), if_neg (by rw [skW ha _ _ (by decide)]; decide), if_neg (by rw [skW ha _ _ (by decide)]; decide), if_neg (by rw [skW ha _ _ (by decide)]; decide), hR]
  rfl
theorem opTk_get {op : Int} (h : 7 ≤ op ∧ op ≤ 15) (l : List Tk) : opOf (opTk op :: l) = some (op - 7).toNat ∧ Fol (opTk op :: l) := by
  have key : ∀ k : Fin 9, opTexts.findIdx? (fun t => (opTexts.getD k.val ⟨#[]⟩).data.toList == t.data.toList) = some k.val ∧ ((opTexts.getD k.val ⟨#[]⟩).data.toList == tDot.data.toList || ((opTexts.getD k.val ⟨#[]⟩).data.toList == tLs.data.toList || (opTexts.getD k.val ⟨#[]⟩).data.toList == tLp.data.toList)) = false := by decide
  have k := key ⟨(op - 7).toNat, by omega⟩
  refine ⟨?_, folK k.2⟩
  unfold opOf opTk
  rw [← k.1]
  congr 1
  funext t
  exact skK _ _ _
theorem len1 {α : Type} {l : List α} (h : l.length = 1) : ∃ a, l = [a] := by
  match l, h with
  | [a], _ => exact ⟨a, rfl⟩
theorem len2 {α : Type} {l : List α} (h : l.length = 2) : ∃ a b, l = [a, b] := by
  match l, h with
  | [a, b], _ => exact ⟨a, b, rfl⟩
theorem count_is {h : Sh} {n : Nat} {k : Nat} (hc : countOk h k = true) (h1 : h.least = n) (h2 : h.most = n) : k = n := by
  unfold countOk at hc
  rw [h1, h2] at hc
  simp at hc
  omega
theorem tE_pos {x : Ex} (h : exOk x) : 0 < (tE x).length := by
  cases h with
  | @mk op n m nm args h1 h2 h3 h4 h5 =>
    simp only [tE]
    have hr : 0 < (refT m nm).length := by unfold refT; split <;> simp
    unfold exTok
    rcases ex_ops h1 with rfl | rfl | rfl | rfl | rfl | rfl | hop
    · simp
    · simp
    · simpa using hr
    · simp; omega
    · simp; omega
    · simp
    · rw [if_neg (by omega), if_neg (by omega), if_neg (by omega), if_neg (by omega), if_neg (by omega), if_neg (by omega)]; simp
/- what cannot begin an expression -/
def noEx (t : ByteArray) : Bool := wordB t && !(t.data.toList == tIn.data.toList || (t.data.toList == tNot.data.toList || t.data.toList == tLp.data.toList)) && decide (0 < t.size)
theorem ex_start {x : Ex} (h : exOk x) (t : ByteArray) (ht : noEx t = true) (r : List Tk) : skB (tE x ++ r) t = false := by
  unfold noEx at ht
  simp only [Bool.and_eq_true, Bool.not_eq_true', Bool.or_eq_false_iff, decide_eq_true_eq] at ht
  obtain ⟨⟨hw, h1', h2', h3'⟩, h0⟩ := ht
  have sy : ∀ u : ByteArray, (t.data.toList == u.data.toList) = false → (u.data.toList == t.data.toList) = false := fun u h => by
    rw [Bool.eq_false_iff] at h ⊢
    intro e
    exact h (beq_iff_eq.2 (beq_iff_eq.1 e).symm)
  cases h with
  | @mk op n m nm args h1 h2 h3 h4 h5 =>
    have rf : ∀ rr, nameOk nm = true → (m.size = 0 ∨ nameOk m = true) → skB (refT m nm ++ rr) t = false := fun rr a b => by
      obtain ⟨c, l, e, hc⟩ := refT_hd a b rr
      rw [e, skW hc _ _ hw]
    simp only [tE]
    unfold exTok
    rcases ex_ops h1 with rfl | rfl | rfl | rfl | rfl | rfl | hop
    · exact skN _ _ _ h0
    · exact (skK _ _ _).trans (sy _ h1')
    · obtain ⟨a, b⟩ := ref_ok rfl h2
      exact rf _ a b
    · obtain ⟨a, b⟩ := ref_ok rfl h2
      show skB ((refT m nm ++ _) ++ r) t = false
      rw [List.append_assoc]; exact rf _ a b
    · obtain ⟨a, b⟩ := ref_ok rfl h2
      show skB ((refT m nm ++ _) ++ r) t = false
      rw [List.append_assoc]; exact rf _ a b
    · exact (skK _ _ _).trans (sy _ h2')
    · rw [if_neg (by omega), if_neg (by omega), if_neg (by omega), if_neg (by omega), if_neg (by omega), if_neg (by omega)]
      exact (skK _ _ _).trans (sy _ h3')
def moreT (xs : List Ex) : List Tk := xs.flatMap (fun x => kTk tCom :: tE x)
theorem commas_more : ∀ (x : Ex) (xs : List Ex), commas (tEs (x :: xs)) = tE x ++ moreT xs
  | x, [] => by simp [tEs, commas, moreT]
  | x, y :: r => by
    have := commas_more y r
    simp only [tEs] at this
    simp only [tEs, commas, this, moreT, List.flatMap_cons]
    simp
theorem more_full : ∀ (xs : List Ex) (f : Nat) (acc : List Ex) (r : List Tk), (∀ x ∈ xs, ∀ f r, 3 * (tE x).length ≤ f → Fol r → pExpr f (tE x ++ r) = some (x, r)) → 3 * (moreT xs).length < f →
    pMore f acc (moreT xs ++ kTk tRp :: r) = some (acc ++ xs, r)
  | [], f, acc, r, _, hf => by
    obtain ⟨f, rfl⟩ : ∃ g, f = g + 1 := ⟨f - 1, by omega⟩
    show pMore (f + 1) acc (kTk tRp :: r) = _
    rw [pMore, if_neg (by rw [skK]; decide), if_pos (by rw [skK]; rfl), List.append_nil]; rfl
  | x :: xs, f, acc, r, hx, hf => by
    obtain ⟨f, rfl⟩ : ∃ g, f = g + 1 := ⟨f - 1, by omega⟩
    have e : moreT (x :: xs) = kTk tCom :: (tE x ++ moreT xs) := by simp [moreT]
    rw [e] at hf ⊢
    simp only [List.length_cons, List.length_append] at hf
    rw [show (kTk tCom :: (tE x ++ moreT xs)) ++ kTk tRp :: r = kTk tCom :: (tE x ++ (moreT xs ++ kTk tRp :: r)) from by simp]
    have hF : Fol (moreT xs ++ kTk tRp :: r) := by
      cases xs with
      | nil => exact folK (by decide)
      | cons y ys =>
        rw [show moreT (y :: ys) = kTk tCom :: (tE y ++ moreT ys) from by simp [moreT]]
        exact folK (by decide)
    rw [pMore, if_pos (by rw [skK]; rfl)]
    show (match pExpr f (tE x ++ (moreT xs ++ kTk tRp :: r)) with | none => none | some (x, l1) => pMore f (acc ++ [x]) l1) = _
    rw [hx x (by simp) f _ (by omega) hF]
    show pMore f (acc ++ [x]) _ = _
    rw [more_full xs f (acc ++ [x]) r (fun y hy => hx y (by simp [hy])) (by omega)]
    simp
theorem args_full {xs : List Ex} (ho : ∀ x ∈ xs, exOk x) (hx : ∀ x ∈ xs, ∀ f r, 3 * (tE x).length ≤ f → Fol r → pExpr f (tE x ++ r) = some (x, r)) (f : Nat) (r : List Tk) (hf : 3 * (commas (tEs xs)).length + 2 ≤ f) :
    pArgs f (commas (tEs xs) ++ kTk tRp :: r) = some (xs, r) := by
  obtain ⟨f, rfl⟩ : ∃ g, f = g + 1 := ⟨f - 1, by omega⟩
  cases xs with
  | nil =>
    show pArgs (f + 1) (kTk tRp :: r) = _
    rw [pArgs, if_pos (by rw [skK]; rfl)]; rfl
  | cons x xs =>
    rw [commas_more] at hf ⊢
    simp only [List.length_append] at hf
    have hp := tE_pos (ho x (by simp))
    rw [List.append_assoc, pArgs, if_neg (by rw [ex_start (ho x (by simp)) _ (by decide)]; decide)]
    have hF : Fol (moreT xs ++ kTk tRp :: r) := by
      cases xs with
      | nil => exact folK (by decide)
      | cons y ys =>
        rw [show moreT (y :: ys) = kTk tCom :: (tE y ++ moreT ys) from by simp [moreT]]
        exact folK (by decide)
    rw [hx x (by simp) f _ (by omega) hF]
    show pMore f [x] _ = _
    rw [more_full xs f [x] r (fun y hy => hx y (by simp [hy])) (by omega)]
    rfl
theorem ex_full {x : Ex} (h : exOk x) : ∀ (f : Nat) (r : List Tk), 3 * (tE x).length ≤ f → Fol r → pExpr f (tE x ++ r) = some (x, r) := by
  induction h with
  | @mk op n m nm args h1 h2 h3 h4 h5 ih =>
    intro f r hf hr
    have hp := tE_pos (.mk h1 h2 h3 h4 h5)
    obtain ⟨f, rfl⟩ : ∃ g, f = g + 1 := ⟨f - 1, by omega⟩
    simp only [tE] at hf ⊢
    rcases ex_ops h1 with rfl | rfl | rfl | rfl | rfl | rfl | hop
    · obtain ⟨rfl, rfl⟩ := ref_none (sh := exS 1) rfl h2
      have := count_is (h := exS 1) (n := 0) h4 rfl rfl
      obtain rfl := List.eq_nil_of_length_eq_zero this
      show pExpr (f + 1) (nTk n :: r) = _
      rw [pExpr, if_pos (by rfl)]; rfl
    · obtain ⟨rfl, rfl⟩ := ref_none (sh := exS 2) rfl h2
      have := count_is (h := exS 2) (n := 0) h4 rfl rfl
      obtain rfl := List.eq_nil_of_length_eq_zero this
      have hn : n = 0 := of_decide_eq_true h3
      subst hn
      show pExpr (f + 1) (kTk tIn :: r) = _
      rw [pExpr, if_neg (by show ¬ (kTk tIn).kind = 2; decide), if_pos (by rw [skK]; rfl)]; rfl
    · obtain ⟨a, b⟩ := ref_ok rfl h2
      have := count_is (h := exS 3) (n := 0) h4 rfl rfl
      obtain rfl := List.eq_nil_of_length_eq_zero this
      have hn : n = 0 := of_decide_eq_true h3
      subst hn
      show pExpr (f + 1) (refT m nm ++ r) = _
      rw [pExpr_ref a b r hr.1, if_neg (by rw [hr.2.1]; decide), if_neg (by rw [hr.2.2]; decide)]
    · obtain ⟨a, b⟩ := ref_ok rfl h2
      obtain ⟨y, rfl⟩ := len1 (count_is (h := exS 4) (n := 1) h4 rfl rfl)
      have hn : n = 0 := of_decide_eq_true h3
      subst hn
      have e : exTok 4 0 m nm (tEs [y]) = refT m nm ++ kTk tLs :: (tE y ++ [kTk tRs]) := by simp [exTok, tEs]
      rw [e] at hf ⊢
      simp only [List.length_append, List.length_cons, List.length_nil] at hf
      rw [show (refT m nm ++ kTk tLs :: (tE y ++ [kTk tRs])) ++ r = refT m nm ++ (kTk tLs :: (tE y ++ kTk tRs :: r)) from by simp]
      rw [pExpr_ref a b _ (by rw [skK]; decide), if_pos (by rw [skK]; rfl)]
      show (match pExpr f (tE y ++ kTk tRs :: r) with | none => none | some (x, l2) => if skB l2 tRs then some (Ex.mk 4 0 m nm [x], l2.tail) else none) = _
      rw [ih y (by simp) f _ (by omega) (folK (by decide))]
      show (if skB (kTk tRs :: r) tRs = true then _ else _) = _
      rw [if_pos (by rw [skK]; rfl)]; rfl
    · obtain ⟨a, b⟩ := ref_ok rfl h2
      have hn : n = 0 := of_decide_eq_true h3
      subst hn
      have e : exTok 5 0 m nm (tEs args) = refT m nm ++ kTk tLp :: (commas (tEs args) ++ [kTk tRp]) := by simp [exTok]
      rw [e] at hf ⊢
      simp only [List.length_append, List.length_cons, List.length_nil] at hf
      rw [show (refT m nm ++ kTk tLp :: (commas (tEs args) ++ [kTk tRp])) ++ r = refT m nm ++ (kTk tLp :: (commas (tEs args) ++ kTk tRp :: r)) from by simp]
      rw [pExpr_ref a b _ (by rw [skK]; decide), if_neg (by rw [skK]; decide), if_pos (by rw [skK]; rfl)]
      show (match pArgs f (commas (tEs args) ++ kTk tRp :: r) with | none => none | some (xs, l2) => some (Ex.mk 5 0 m nm xs, l2)) = _
      rw [args_full h5 ih f r (by omega)]
    · obtain ⟨rfl, rfl⟩ := ref_none (sh := exS 6) rfl h2
      obtain ⟨y, rfl⟩ := len1 (count_is (h := exS 6) (n := 1) h4 rfl rfl)
      have hn : n = 0 := of_decide_eq_true h3
      subst hn
      have e : exTok 6 0 ⟨#[]⟩ ⟨#[]⟩ (tEs [y]) = kTk tNot :: tE y := by simp [exTok, tEs]
      rw [e] at hf ⊢
      simp only [List.length_cons] at hf
      show pExpr (f + 1) (kTk tNot :: (tE y ++ r)) = _
      rw [pExpr, if_neg (by show ¬ (kTk tNot).kind = 2; decide), if_neg (by rw [skK]; decide), if_pos (by rw [skK]; rfl)]
      show (match pExpr f (tE y ++ r) with | none => none | some (x, l1) => some (Ex.mk 6 0 ⟨#[]⟩ ⟨#[]⟩ [x], l1)) = _
      rw [ih y (by simp) f r (by omega) hr]
    · have hS : exS op = ⟨false, false, 2, 2, false, false⟩ := by
        unfold exS exSh
        rw [if_neg (by omega), if_neg (by omega), if_neg (by omega), if_neg (by omega), if_neg (by omega), if_neg (by omega), if_pos hop]; rfl
      rw [hS] at h2 h3 h4
      obtain ⟨rfl, rfl⟩ := ref_none rfl h2
      obtain ⟨y, z, rfl⟩ := len2 (count_is (n := 2) h4 rfl rfl)
      have hn : n = 0 := of_decide_eq_true h3
      subst hn
      have e : exTok op 0 ⟨#[]⟩ ⟨#[]⟩ (tEs [y, z]) = kTk tLp :: (tE y ++ opTk op :: (tE z ++ [kTk tRp])) := by
        unfold exTok
        rw [if_neg (by omega), if_neg (by omega), if_neg (by omega), if_neg (by omega), if_neg (by omega), if_neg (by omega)]
        simp [tEs]
      rw [e] at hf ⊢
      simp only [List.length_append, List.length_cons, List.length_nil] at hf
      obtain ⟨f, rfl⟩ : ∃ g, f = g + 1 := ⟨f - 1, by omega⟩
      rw [show (kTk tLp :: (tE y ++ opTk op :: (tE z ++ [kTk tRp]))) ++ r = kTk tLp :: (tE y ++ opTk op :: (tE z ++ kTk tRp :: r)) from by simp]
      rw [pExpr, if_neg (by show ¬ (kTk tLp).kind = 2; decide), if_neg (by rw [skK]; decide), if_neg (by rw [skK]; decide), if_pos (by rw [skK]; rfl)]
      show pPair (f + 1) (tE y ++ opTk op :: (tE z ++ kTk tRp :: r)) = _
      obtain ⟨o1, o2⟩ := opTk_get hop (tE z ++ kTk tRp :: r)
      rw [pPair, ih y (by simp) f _ (by omega) o2]
      show (match opOf (opTk op :: (tE z ++ kTk tRp :: r)) with | none => none | some k => (match pExpr f (tE z ++ kTk tRp :: r) with | none => none | some (b, l2) => if skB l2 tRp then some (Ex.mk (7 + k) 0 ⟨#[]⟩ ⟨#[]⟩ [y, b], l2.tail) else none)) = _
      rw [o1]
      show (match pExpr f (tE z ++ kTk tRp :: r) with | none => none | some (b, l2) => if skB l2 tRp then some (Ex.mk (7 + ((op - 7).toNat : Int)) 0 ⟨#[]⟩ ⟨#[]⟩ [y, b], l2.tail) else none) = _
      rw [ih z (by simp) f _ (by omega) (folK (by decide))]
      show (if skB (kTk tRp :: r) tRp = true then _ else _) = _
      rw [if_pos (by rw [skK]; rfl), show (7 + ((op - 7).toNat : Int)) = op from by omega]; rfl
end Go.Proofs.YtcekpobmbmnplaaGreatDoor
