/-
  The program's Lex answers the tokens of the text or its error; the comparison of two lists of the same tokens answers true.
-/
import Derived.Test.YtndkhgakfodldaaGreatDoorStep
import Derived.Deep.QuietTactic
import Derived.BigQuiet
import Derived.Test.YtndkhgakfodldaaGreatDoorPj
import Derived.Test.YtndkhgakfodldaaGreatDoorTd
namespace Go.Proofs.YtndkhgakfodldaaGreatDoor
open Go.RowKit

set_option maxRecDepth 100000 in
set_option maxHeartbeats 400000 in
theorem Lex_any (s : ByteArray) (w : World) (hs : s.size ≤ maxLen) :
    Calls Tryz.prog 114 #[.string s] w fun e w' => ∃ a cap, e = .returned (.tuple #[.slice a (lexT s).length cap, .int .i64 (lexE s)]) ∧ ToksAt w' a (lexT s) ∧ Below w.heap.size w w' := by
  unfold maxLen at hs
  by_cases hlong : 4096 < s.size
  · have HE : Hid (lexT s = [] ∧ lexE s = 2) := lex_long hlong
    go_enter Tryz.func114, Tryz.ntmps114
    go_wp2_with fail
    go_ret2
    exact ⟨none, 0, by rw [HE.out.1, HE.out.2]; rfl, by rw [HE.out.1]; exact Or.inl rfl, Below.refl _ _⟩
  · have HC : Hid (Calls Tryz.prog 157 #[.string s] w fun e w' => ∃ a cap, e = .returned (.tuple #[.slice a (lexT s).length cap, .int .i64 (lexE s)]) ∧ ToksAt w' a (lexT s) ∧ Below w.heap.size w w') := tokens_any s w (by omega)
    generalize lexT s = ts at *
    generalize lexE s = n at *
    go_enter Tryz.func114, Tryz.ntmps114
    go_wp2_with fail
    refine HC.out.mono ?_
    rintro e w2 ⟨a, cap, rfl, hT, hb⟩
    have HT : Hid (ToksAt w2 a ts) := hT
    clear hT HC
    go_wp2_with fail
    go_ret2
    exact ⟨a, cap, rfl, HT.out, hb⟩

/- The same with a bound on how many pieces are read, so that it can be reckoned. -/
def lexF : Nat → ByteArray → Nat → Option (List Tk)
  | 0, s, a => if a < s.size then none else some []
  | f + 1, s, a =>
    if h : a < s.size then
      if blankB s[a] then lexF f s (a + Lx.pieceN s a)
      else match tokOf (s.extract a (a + Lx.pieceN s a)) with
        | none => none
        | some t => (lexF f s (a + Lx.pieceN s a)).map (t :: ·)
    else some []
theorem lexF_eq : ∀ (f : Nat) (s : ByteArray) (a : Nat), s.size - a ≤ f → lexF f s a = lexAt s a
  | 0, s, a, h => by rw [lexAt_end s a (by omega)]; unfold lexF; rw [if_neg (by omega)]
  | f + 1, s, a, h => by
    have hp := Lx.pieceN_pos s a
    have ih := lexF_eq f s (a + Lx.pieceN s a) (by omega)
    rw [lexAt, lexF, ih]
    cases tokOf (s.extract a (a + Lx.pieceN s a)) <;> rfl
end Go.Proofs.YtndkhgakfodldaaGreatDoor

namespace Go.Proofs.YtndkhgakfodldaaGreatDoor
open Go.RowKit

def pieceL (l : List UInt8) : Nat := if Lx.runL l = 0 then 1 else Lx.runL l
theorem pieceL_pos (l : List UInt8) : 0 < pieceL l := by unfold pieceL; split <;> omega
def lexL : List UInt8 → Option (List Tk)
  | [] => some []
  | c :: l =>
    if blankB c then lexL ((c :: l).drop (pieceL (c :: l)))
    else match tokOf (strOf ((c :: l).take (pieceL (c :: l)))) with
      | none => none
      | some t => (lexL ((c :: l).drop (pieceL (c :: l)))).map (t :: ·)
termination_by l => l.length
decreasing_by
  all_goals have := pieceL_pos (c :: l); simp only [List.length_drop, List.length_cons]; omega

theorem extract_str (s : ByteArray) (a n : Nat) : s.extract a (a + n) = strOf ((s.data.toList.drop a).take n) := by
  rw [← piece_data, strOf_back]
theorem lexAt_list : ∀ (n : Nat) (s : ByteArray) (a : Nat), s.size - a = n → lexAt s a = lexL (s.data.toList.drop a) := by
  intro n
  induction n using Nat.strongRecOn with
  | _ n ih =>
    intro s a hn
    by_cases h : a < s.size
    · have hd := drop_cons s a h
      have hp : Lx.pieceN s a = pieceL (s.data.toList.drop a) := rfl
      have hpos := Lx.pieceN_pos s a
      have ih' := ih (s.size - (a + Lx.pieceN s a)) (by omega) s (a + Lx.pieceN s a) rfl
      have hdd : s.data.toList.drop (a + Lx.pieceN s a) = (s.data.toList.drop a).drop (Lx.pieceN s a) := by rw [List.drop_drop]
      cases hb : blankB s[a] with
      | true =>
        rw [lexAt_blank s a h hb, ih', hdd, hp, hd, lexL, if_pos hb]
      | false =>
        have he := extract_str s a (Lx.pieceN s a)
        cases ht : tokOf (s.extract a (a + Lx.pieceN s a)) with
        | none =>
          rw [lexAt_none s a h hb ht]
          rw [he, hp, hd] at ht
          rw [hd, lexL, if_neg (by simp [hb]), ht]
        | some t =>
          rw [lexAt_some s a t h hb ht, ih', hdd]
          rw [he, hp, hd] at ht
          rw [hp, hd, lexL, if_neg (by simp [hb]), ht]
    · rw [lexAt_end s a h, List.drop_eq_nil_of_le (by rw [Lx.len_toList]; omega), lexL]
theorem lexAt_zero (s : ByteArray) : lexAt s 0 = lexL s.data.toList := by
  have := lexAt_list _ s 0 rfl
  rwa [List.drop_zero] at this

/- y is empty, or begins with a blank -/
/- one piece that is a token -/
/- A3: what is shown is read as it was. -/
/- A2: texts with a blank between them. -/
/- what is read is right -/
theorem tokOf_right {s : ByteArray} {t : Tk} (h : tokOf s = some t) : kindB t = true ∧ Tk.okB t = true := by
  unfold tokOf at h
  split at h
  · rename_i hs
    cases h
    exact ⟨rfl, by unfold Tk.okB; simp [hs]⟩
  · split at h
    · rename_i hn
      cases h
      exact ⟨rfl, by unfold Tk.okB; simp [hn]⟩
    · split at h
      · rename_i hk
        cases h
        refine ⟨rfl, ?_⟩
        have hv : Lx.valL s.data.toList ≤ 1099511627775 := by unfold Lx.numOk at hk; simp at hk; exact hk.2
        unfold Tk.okB
        rw [Lib.toList_data]
        simp
        omega
      · cases h
theorem lexL_right : ∀ (n : Nat) (l : List UInt8) (ts : List Tk), l.length = n → lexL l = some ts → Right ts ∧ ts.length ≤ l.length := by
  intro n
  induction n using Nat.strongRecOn with
  | _ n ih =>
    intro l ts hn h
    cases l with
    | nil => rw [lexL] at h; cases h; exact ⟨⟨rfl, rfl⟩, Nat.le_refl _⟩
    | cons c r =>
      have hpos := pieceL_pos (c :: r)
      have hlen : ((c :: r).drop (pieceL (c :: r))).length < n := by rw [List.length_drop]; simp at hn ⊢; omega
      rw [lexL] at h
      split at h
      · obtain ⟨h1, h2⟩ := ih _ hlen _ ts rfl h
        exact ⟨h1, by omega⟩
      · cases ht : tokOf (strOf ((c :: r).take (pieceL (c :: r)))) with
        | none => rw [ht] at h; cases h
        | some t =>
          rw [ht] at h
          cases hr : lexL ((c :: r).drop (pieceL (c :: r))) with
          | none => rw [hr] at h; cases h
          | some us =>
            rw [hr] at h
            cases h
            obtain ⟨h1, h2⟩ := ih _ hlen _ us rfl hr
            obtain ⟨hk, ho⟩ := tokOf_right ht
            refine ⟨⟨?_, ?_⟩, ?_⟩
            · rw [List.all_cons, hk, h1.1]; rfl
            · rw [List.all_cons, ho, h1.2]; rfl
            · simp only [List.length_cons] at *; omega

end Go.Proofs.YtndkhgakfodldaaGreatDoor

namespace Go.Proofs.YtndkhgakfodldaaGreatDoor
open Go.RowKit

/- tokens -/
def kTk (t : ByteArray) : Tk := ⟨if Lx.nameB t.data.toList then 1 else 3, 0, t⟩
def wTk (t : ByteArray) : Tk := ⟨1, 0, t⟩
def nTk (n : Int) : Tk := ⟨2, n, ⟨#[]⟩⟩
theorem sign_name {l : List UInt8} (h : Lx.signL l = true) : Lx.nameB l = false := by
  match l, h with
  | [c], h =>
    have h' : Lx.signs.contains c = true := h
    have key : ∀ c ∈ Lx.signs, Lx.nameB [c] = false := by decide
    exact key c (List.contains_iff_mem.1 h')
theorem Right.of_app {a b : List Tk} (h : Right (a ++ b)) : Right b := by
  obtain ⟨h1, h2⟩ := h
  rw [List.all_append, Bool.and_eq_true] at h1 h2
  exact ⟨h1.2, h2.2⟩
theorem Right.head {t : Tk} {b : List Tk} (h : Right (t :: b)) : kindB t = true ∧ Tk.okB t = true := by
  obtain ⟨h1, h2⟩ := h
  rw [List.all_cons, Bool.and_eq_true] at h1 h2
  exact ⟨h1.1, h2.1⟩
theorem Right.of_eq {a b c : List Tk} (h : Right a) (e : a = b ++ c) : Right c := by rw [e] at h; exact h.of_app
theorem toList_inj {s t : ByteArray} (h : s.toList = t.toList) : s = t := by
  rw [Lib.toList_data, Lib.toList_data] at h
  exact ByteArray.ext (Array.ext' h)
theorem sk_tok {l : List Tk} {t : ByteArray} (hr : Right l) (ht : 0 < t.size) (h : skB l t = true) : l = kTk t :: l.tail := by
  cases l with
  | nil => exact absurd rfl (skB_ne ht h)
  | cons x r =>
    obtain ⟨hk, ho⟩ := hr.head
    obtain ⟨k, n, s⟩ := x
    have hs : s = t := toList_inj (beq_iff_eq.1 h)
    subst hs
    show Tk.mk k n s :: r = kTk s :: r
    have hne : s.toList.isEmpty = false := by
      cases he : s.toList.isEmpty with
      | false => rfl
      | true =>
        rw [Lib.toList_data] at he
        have h1 := Lx.len_toList s
        rw [List.isEmpty_iff.1 he] at h1
        simp at h1
        omega
    unfold kindB at hk
    simp only [Bool.and_eq_true, decide_eq_true_eq] at hk
    unfold Tk.okB at ho
    have h123 : k = 1 ∨ k = 2 ∨ k = 3 := by omega
    rcases h123 with rfl | rfl | rfl
    · simp at ho
      unfold kTk
      rw [ho.1, ho.2]; rfl
    · simp [hne] at ho
    · simp at ho
      unfold kTk
      rw [ho.1, sign_name ho.2]; rfl
theorem keptP_eq (s : ByteArray) : keptP s = keptB s := by
  unfold keptP keptB
  rw [Lib.toList_data]
  show kepts.any _ = kept.contains _
  rw [Bool.eq_iff_iff, List.any_eq_true, List.contains_iff_mem]
  constructor
  · rintro ⟨x, hx, h⟩
    rw [beq_iff_eq.1 h]; exact hx
  · intro h
    exact ⟨_, h, beq_self_eq_true _⟩
theorem name_tok {l l' : List Tk} {a : ByteArray} (hr : Right l) (h : pName l = some (a, l')) : l = wTk a :: l' ∧ nameOk a = true := by
  unfold pName at h
  split at h
  · rename_i hk
    obtain ⟨rfl, rfl⟩ := Prod.mk.inj (Option.some.inj h)
    simp only [Bool.and_eq_true, beq_iff_eq, Bool.not_eq_true'] at hk
    cases l with
    | nil => exact absurd hk.1 (by decide)
    | cons x r =>
      obtain ⟨_, ho⟩ := hr.head
      obtain ⟨k, n, s⟩ := x
      have e1 : k = 1 := hk.1
      have e2 : keptP s = false := hk.2
      subst e1
      unfold Tk.okB at ho
      simp at ho
      have e3 : n = 0 := ho.1
      subst e3
      refine ⟨rfl, ?_⟩
      show nameOk s = true
      unfold nameOk
      rw [← keptP_eq, e2, ho.2]; rfl
  · cases h
theorem num_tok {l l' : List Tk} {a : Int} (hr : Right l) (h : pNum l = some (a, l')) : l = nTk a :: l' ∧ 0 ≤ a ∧ a ≤ 1099511627775 := by
  unfold pNum at h
  split at h
  · rename_i hk
    obtain ⟨rfl, rfl⟩ := Prod.mk.inj (Option.some.inj h)
    cases l with
    | nil => exact absurd hk (by decide)
    | cons x r =>
      obtain ⟨_, ho⟩ := hr.head
      obtain ⟨k, n, s⟩ := x
      have e1 : k = 2 := hk
      subst e1
      unfold Tk.okB at ho
      simp at ho
      have e2 : s = ⟨#[]⟩ := by
        apply toList_inj
        rw [ho.1, Lib.toList_data]
      subst e2
      exact ⟨rfl, ho.2⟩
  · cases h
def refT (m n : ByteArray) : List Tk := if m.size = 0 then [wTk n] else [wTk m, kTk tDot, wTk n]
theorem name_pos {s : ByteArray} (h : nameOk s = true) : 0 < s.size := by
  rcases Nat.eq_zero_or_pos s.size with h0 | h0
  · exfalso
    have : s.data.toList = [] := List.eq_nil_of_length_eq_zero (by rw [Lx.len_toList]; exact h0)
    unfold nameOk at h
    rw [this] at h
    simp [Lx.nameB, Lx.headLet] at h
  · exact h0
theorem ref_tok {l l' : List Tk} {m n : ByteArray} (hr : Right l) (h : pRef l = some ((m, n), l')) : l = refT m n ++ l' ∧ nameOk n = true ∧ (m.size = 0 ∨ nameOk m = true) := by
  unfold pRef at h
  split at h
  · cases h
  rename_i a l1 h1
  obtain ⟨e1, n1⟩ := name_tok hr h1
  have r1 : Right l1 := hr.of_eq (b := [wTk a]) e1
  split at h
  · rename_i hs
    have e2 := sk_tok r1 (by decide) hs
    split at h
    · cases h
    rename_i b l2 h2
    obtain ⟨e3, n3⟩ := name_tok (r1.of_eq (b := [kTk tDot]) e2) h2
    obtain ⟨h3, rfl⟩ := Prod.mk.inj (Option.some.inj h)
    obtain ⟨rfl, rfl⟩ := Prod.mk.inj h3
    refine ⟨?_, n3, Or.inr n1⟩
    unfold refT
    rw [if_neg (by have := name_pos n1; omega), e1, e2, show l1.tail = wTk b :: l2 from e3]; rfl
  · obtain ⟨h3, rfl⟩ := Prod.mk.inj (Option.some.inj h)
    obtain ⟨rfl, rfl⟩ := Prod.mk.inj h3
    exact ⟨e1, n1, Or.inl rfl⟩
/- expressions -/
def opTk (op : Int) : Tk := kTk (opTexts.getD (op - 7).toNat ⟨#[]⟩)
def commas : List (List Tk) → List Tk
  | [] => []
  | [x] => x
  | x :: y :: r => x ++ kTk tCom :: commas (y :: r)
def exTok (op n : Int) (m nm : ByteArray) (xs : List (List Tk)) : List Tk :=
  if op = 1 then [nTk n] else if op = 2 then [kTk tIn] else if op = 3 then refT m nm
  else if op = 4 then refT m nm ++ kTk tLs :: (xs.getD 0 [] ++ [kTk tRs])
  else if op = 5 then refT m nm ++ kTk tLp :: (commas xs ++ [kTk tRp])
  else if op = 6 then kTk tNot :: xs.getD 0 []
  else kTk tLp :: (xs.getD 0 [] ++ opTk op :: (xs.getD 1 [] ++ [kTk tRp]))
mutual
def tE : Ex → List Tk
  | .mk op n m nm args => exTok op n m nm (tEs args)
def tEs : List Ex → List (List Tk)
  | [] => []
  | x :: r => tE x :: tEs r
end
theorem tEs_append : ∀ (a b : List Ex), tEs (a ++ b) = tEs a ++ tEs b
  | [], b => by simp [tEs]
  | x :: r, b => by simp [tEs, tEs_append r b]
theorem tEs_len : ∀ (a : List Ex), (tEs a).length = a.length
  | [] => by simp [tEs]
  | x :: r => by simp [tEs, tEs_len r]
theorem commas_snoc : ∀ (a : List (List Tk)) (x : List Tk), a ≠ [] → commas (a ++ [x]) = commas a ++ kTk tCom :: x
  | [], _, h => absurd rfl h
  | [y], x, _ => by simp [commas]
  | y :: z :: r, x, _ => by
    have := commas_snoc (z :: r) x (by simp)
    show y ++ kTk tCom :: commas ((z :: r) ++ [x]) = (y ++ kTk tCom :: commas (z :: r)) ++ kTk tCom :: x
    rw [this]; simp
theorem wf_small {n : Int} (h0 : -9223372036854775808 ≤ n) (h1 : n ≤ 9223372036854775807) : (Lit.int .i64 n).wf = true := by
  have e1 : IntKind.i64.min = -9223372036854775808 := by decide
  have e2 : IntKind.i64.max = 9223372036854775807 := by decide
  simp [Lit.wf, e1, e2]
  omega
theorem exsD_len : ∀ (l : List Ex), (exsD l).length = 5 * l.length
  | [] => by simp [exsD]
  | x :: r => by
    have := x.ds_len
    simp [exsD, exsD_len r, this]; omega
theorem stsD_len : ∀ (l : List St), (stsD l).length = 6 * l.length
  | [] => by simp [stsD]
  | x :: r => by
    have := x.ds_len
    simp [stsD, stsD_len r, this]; omega
theorem ex_fine {op n : Int} {m nm : ByteArray} {args : List Ex} (h1 : (Lit.int .i64 op).wf = true) (h2 : (Lit.int .i64 n).wf = true) (h3 : args.length ≤ 10000) (h4 : D.fines (exsD args)) : D.fines (Ex.mk op n m nm args).ds := by
  unfold Ex.ds
  simp only [D.fines, D.fine]
  refine ⟨h1, h2, trivial, trivial, ⟨?_, ?_, h4⟩, trivial⟩
  · rw [exsD_len]; omega
  · rw [exsD_len]; omega
theorem fines_nil : D.fines [] := by unfold D.fines; trivial
theorem ex_fine1 {x : Ex} (h : D.fines x.ds) : D.fines (exsD [x]) := by rw [exsD_one]; exact h
theorem ex_fine2 {x y : Ex} (h : D.fines x.ds) (k : D.fines y.ds) : D.fines (exsD [x, y]) := by
  show D.fines (x.ds ++ (y.ds ++ []))
  exact D.fines_append h (D.fines_append k fines_nil)
theorem opOf_tok {l : List Tk} {k : Nat} (hr : Right l) (h : opOf l = some k) : l = opTk (7 + k) :: l.tail ∧ k < 9 := by
  unfold opOf at h
  obtain ⟨hk, h2, _⟩ := List.findIdx?_eq_some_iff_getElem.1 h
  have hp : 0 < (opTexts[k]).size := by
    have : ∀ x ∈ opTexts, 0 < x.size := by decide
    exact this _ (List.getElem_mem hk)
  refine ⟨?_, hk⟩
  have e := sk_tok hr hp h2
  unfold opTk
  rw [show ((7 : Int) + (k : Int) - 7).toNat = k from by omega, List.getD_eq_getElem?_getD, List.getElem?_eq_getElem hk]
  exact e
/- what is read -/
def Good (l : List Tk) : Prop := Right l ∧ l.length ≤ 4096
theorem Good.of_eq {a b c : List Tk} (h : Good a) (e : a = b ++ c) : Good c := ⟨h.1.of_eq e, by have := h.2; rw [e, List.length_append] at this; omega⟩
theorem Good.tl {a c : List Tk} {t : Tk} (h : Good a) (e : a = t :: c) : Good c := h.of_eq (b := [t]) e
mutual
theorem pExpr_sound : ∀ (f : Nat) (l l' : List Tk) (x : Ex), pExpr f l = some (x, l') → Good l → l = tE x ++ l' ∧ D.fines x.ds
  | 0, _, _, _, h, _ => by simp [pExpr] at h
  | f + 1, l, l', x, h, hg => by
    unfold pExpr at h
    split at h
    · rename_i hk
      obtain ⟨rfl, rfl⟩ := Prod.mk.inj (Option.some.inj h)
      have hn : pNum l = some ((hd l).n, l.tail) := by unfold pNum; rw [if_pos hk]
      obtain ⟨e, h0, h1⟩ := num_tok hg.1 hn
      exact ⟨by simpa [tE, exTok] using e, ex_fine (wf_small (by decide) (by decide)) (wf_small (by omega) (by omega)) (by simp) (by unfold exsD; exact fines_nil)⟩
    split at h
    · rename_i hs
      obtain ⟨rfl, rfl⟩ := Prod.mk.inj (Option.some.inj h)
      exact ⟨by simpa [tE, exTok] using sk_tok hg.1 (by decide) hs, ex_fine (wf_small (by decide) (by decide)) (wf_small (by decide) (by decide)) (by simp) (by unfold exsD; exact fines_nil)⟩
    split at h
    · rename_i hs
      have e := sk_tok hg.1 (by decide) hs
      split at h
      · cases h
      rename_i y l1 h1
      obtain ⟨rfl, rfl⟩ := Prod.mk.inj (Option.some.inj h)
      obtain ⟨e1, f1⟩ := pExpr_sound f _ _ _ h1 (hg.tl e)
      refine ⟨?_, ex_fine (wf_small (by decide) (by decide)) (wf_small (by decide) (by decide)) (by simp) (ex_fine1 f1)⟩
      rw [e, show l.tail = tE y ++ l1 from e1]; simp [tE, tEs, exTok]
    split at h
    · rename_i hs
      have e := sk_tok hg.1 (by decide) hs
      obtain ⟨e1, f1⟩ := pPair_sound f _ _ _ h (hg.tl e)
      exact ⟨e.trans e1, f1⟩
    split at h
    · cases h
    rename_i m nm l1 h1
    obtain ⟨e1, n1, n2⟩ := ref_tok hg.1 h1
    have g1 := hg.of_eq e1
    split at h
    · rename_i hs
      have e2 := sk_tok g1.1 (by decide) hs
      split at h
      · cases h
      rename_i y l2 h2
      obtain ⟨e3, f3⟩ := pExpr_sound f _ _ _ h2 (g1.tl e2)
      split at h
      · rename_i hs2
        have e4 := sk_tok ((g1.tl e2).of_eq e3).1 (by decide) hs2
        obtain ⟨rfl, rfl⟩ := Prod.mk.inj (Option.some.inj h)
        refine ⟨?_, ex_fine (wf_small (by decide) (by decide)) (wf_small (by decide) (by decide)) (by simp) (ex_fine1 f3)⟩
        rw [e1, e2, show l1.tail = tE y ++ l2 from e3, e4]; simp [tE, tEs, exTok]
      · cases h
    split at h
    · rename_i hs
      have e2 := sk_tok g1.1 (by decide) hs
      split at h
      · cases h
      rename_i ys l2 h2
      obtain ⟨e3, f3, c3⟩ := pArgs_sound f _ _ _ h2 (g1.tl e2)
      obtain ⟨rfl, rfl⟩ := Prod.mk.inj (Option.some.inj h)
      have hl3 : l1.tail.length ≤ 4096 := (g1.tl e2).2
      refine ⟨?_, ex_fine (wf_small (by decide) (by decide)) (wf_small (by decide) (by decide)) (by omega) f3⟩
      rw [e1, e2, show l1.tail = commas (tEs ys) ++ kTk tRp :: l2 from e3]; simp [tE, exTok]
    · obtain ⟨rfl, rfl⟩ := Prod.mk.inj (Option.some.inj h)
      refine ⟨?_, ex_fine (wf_small (by decide) (by decide)) (wf_small (by decide) (by decide)) (by simp) (by unfold exsD; exact fines_nil)⟩
      rw [e1]; simp [tE, exTok]
theorem pPair_sound : ∀ (f : Nat) (l l' : List Tk) (x : Ex), pPair f l = some (x, l') → Good l → kTk tLp :: l = tE x ++ l' ∧ D.fines x.ds
  | 0, _, _, _, h, _ => by simp [pPair] at h
  | f + 1, l, l', x, h, hg => by
    unfold pPair at h
    split at h
    · cases h
    rename_i a l1 h1
    obtain ⟨e1, f1⟩ := pExpr_sound f _ _ _ h1 hg
    have g1 := hg.of_eq e1
    split at h
    · cases h
    rename_i k hk
    obtain ⟨e2, k9⟩ := opOf_tok g1.1 hk
    split at h
    · cases h
    rename_i b l2 h2
    obtain ⟨e3, f3⟩ := pExpr_sound f _ _ _ h2 (g1.tl e2)
    split at h
    · rename_i hs
      have e4 := sk_tok ((g1.tl e2).of_eq e3).1 (by decide) hs
      obtain ⟨rfl, rfl⟩ := Prod.mk.inj (Option.some.inj h)
      refine ⟨?_, ex_fine (wf_small (by omega) (by omega)) (wf_small (by decide) (by decide)) (by simp) (ex_fine2 f1 f3)⟩
      have hop : ∀ xs, exTok (7 + (k : Int)) 0 ⟨#[]⟩ ⟨#[]⟩ xs = kTk tLp :: (xs.getD 0 [] ++ opTk (7 + k) :: (xs.getD 1 [] ++ [kTk tRp])) := by
        intro xs
        unfold exTok
        rw [if_neg (by omega), if_neg (by omega), if_neg (by omega), if_neg (by omega), if_neg (by omega), if_neg (by omega)]
      rw [e1, e2, show l1.tail = tE b ++ l2 from e3, e4]
      simp only [tE, hop, tEs]
      simp
    · cases h
theorem pArgs_sound : ∀ (f : Nat) (l l' : List Tk) (xs : List Ex), pArgs f l = some (xs, l') → Good l → l = commas (tEs xs) ++ kTk tRp :: l' ∧ D.fines (exsD xs) ∧ xs.length ≤ l.length
  | 0, _, _, _, h, _ => by simp [pArgs] at h
  | f + 1, l, l', xs, h, hg => by
    unfold pArgs at h
    split at h
    · rename_i hs
      obtain ⟨rfl, rfl⟩ := Prod.mk.inj (Option.some.inj h)
      exact ⟨by simpa [tEs, commas] using sk_tok hg.1 (by decide) hs, by unfold exsD; exact fines_nil, by simp⟩
    split at h
    · cases h
    rename_i x l1 h1
    obtain ⟨e1, f1⟩ := pExpr_sound f _ _ _ h1 hg
    have hlt := pExpr_lt f _ _ _ h1
    obtain ⟨e2, f2, c2⟩ := pMore_sound f [x] l1 l' xs h (hg.of_eq e1) (by simp) (by have := hg.2; simp; omega) (ex_fine1 f1)
    refine ⟨?_, f2, by simp at c2; omega⟩
    rw [e1, ← e2]; simp [tEs, commas]
theorem pMore_sound : ∀ (f : Nat) (acc : List Ex) (l l' : List Tk) (xs : List Ex), pMore f acc l = some (xs, l') → Good l → acc ≠ [] → acc.length + l.length ≤ 10000 → D.fines (exsD acc) → commas (tEs acc) ++ l = commas (tEs xs) ++ kTk tRp :: l' ∧ D.fines (exsD xs) ∧ xs.length ≤ acc.length + l.length
  | 0, _, _, _, _, h, _, _, _, _ => by simp [pMore] at h
  | f + 1, acc, l, l', xs, h, hg, hne, hc, hf => by
    unfold pMore at h
    split at h
    · rename_i hs
      have e := sk_tok hg.1 (by decide) hs
      have hl := skB_lt (by decide) hs
      split at h
      · cases h
      rename_i x l1 h1
      obtain ⟨e1, f1⟩ := pExpr_sound f _ _ _ h1 (hg.tl e)
      have hlt := pExpr_lt f _ _ _ h1
      obtain ⟨e2, f2, c2⟩ := pMore_sound f (acc ++ [x]) l1 l' xs h ((hg.tl e).of_eq e1) (by simp) (by simp; omega) (by rw [exsD_append]; exact D.fines_append hf (ex_fine1 f1))
      refine ⟨?_, f2, by simp at c2; omega⟩
      rw [← e2, tEs_append, show tEs [x] = [tE x] from by simp [tEs], commas_snoc _ _ (by intro h0; apply hne; have := tEs_len acc; rw [h0] at this; exact List.eq_nil_of_length_eq_zero this.symm), e, show l.tail = tE x ++ l1 from e1]
      simp
    split at h
    · rename_i hs
      obtain ⟨rfl, rfl⟩ := Prod.mk.inj (Option.some.inj h)
      exact ⟨by rw [← sk_tok hg.1 (by decide) hs], hf, by omega⟩
    · cases h
end
end Go.Proofs.YtndkhgakfodldaaGreatDoor
