/-
  What the tokens of a text are, said without the program: piece by piece from the left; and that the document's way to part the text comes to the same pieces.
-/
import Derived.Test.YtfiejjaocfcheaaDoorShow
namespace Go.Proofs.YtfiejjaocfcheaaDoor
open Go.RowKit

def blankB (c : UInt8) : Bool := c == 32 || c == 10
def lexAt (s : ByteArray) (a : Nat) : Option (List Tk) :=
  if h : a < s.size then
    if blankB s[a] then lexAt s (a + Lx.pieceN s a)
    else match tokOf (s.extract a (a + Lx.pieceN s a)) with
      | none => none
      | some t => (lexAt s (a + Lx.pieceN s a)).map (t :: ·)
  else some []
termination_by s.size - a
decreasing_by
  all_goals have := Lx.pieceN_pos s a; omega

theorem lexAt_end (s : ByteArray) (a : Nat) (h : ¬ a < s.size) : lexAt s a = some [] := by rw [lexAt, dif_neg h]
theorem lexAt_blank (s : ByteArray) (a : Nat) (h : a < s.size) (hb : blankB s[a] = true) : lexAt s a = lexAt s (a + Lx.pieceN s a) := by
  rw [lexAt, dif_pos h, if_pos hb]
theorem lexAt_none (s : ByteArray) (a : Nat) (h : a < s.size) (hb : blankB s[a] = false) (ht : tokOf (s.extract a (a + Lx.pieceN s a)) = none) : lexAt s a = none := by
  rw [lexAt, dif_pos h, if_neg (by simp [hb]), ht]
theorem lexAt_some (s : ByteArray) (a : Nat) (t : Tk) (h : a < s.size) (hb : blankB s[a] = false) (ht : tokOf (s.extract a (a + Lx.pieceN s a)) = some t) : lexAt s a = (lexAt s (a + Lx.pieceN s a)).map (t :: ·) := by
  rw [lexAt, dif_pos h, if_neg (by simp [hb]), ht]

/- What the loops keep: the tokens so far, and what is still to be read. -/
def LexInv (s : ByteArray) (a : Nat) (ts : List Tk) : Prop := lexAt s 0 = (lexAt s a).map (ts ++ ·)
theorem LexInv.start (s : ByteArray) : LexInv s 0 [] := by
  unfold LexInv; cases lexAt s 0 <;> rfl
theorem LexInv.blank {s : ByteArray} {a : Nat} {ts : List Tk} (h : LexInv s a ts) (ha : a < s.size) (hb : blankB s[a] = true) : LexInv s (a + Lx.pieceN s a) ts := by
  unfold LexInv at *; rw [h, lexAt_blank s a ha hb]
theorem LexInv.tok {s : ByteArray} {a : Nat} {ts : List Tk} {t : Tk} (h : LexInv s a ts) (ha : a < s.size) (hb : blankB s[a] = false) (ht : tokOf (s.extract a (a + Lx.pieceN s a)) = some t) : LexInv s (a + Lx.pieceN s a) (ts ++ [t]) := by
  unfold LexInv at *
  rw [h, lexAt_some s a t ha hb ht]
  cases lexAt s (a + Lx.pieceN s a) <;> simp
theorem LexInv.stop {s : ByteArray} {a : Nat} {ts : List Tk} (h : LexInv s a ts) (ha : a < s.size) (hb : blankB s[a] = false) (ht : tokOf (s.extract a (a + Lx.pieceN s a)) = none) : lexAt s 0 = none := by
  unfold LexInv at *; rw [h, lexAt_none s a ha hb ht]; rfl
theorem LexInv.done {s : ByteArray} {a : Nat} {ts : List Tk} (h : LexInv s a ts) (ha : ¬ a < s.size) : lexAt s 0 = some ts := by
  unfold LexInv at *; rw [h, lexAt_end s a ha]; simp

def lexT (s : ByteArray) : List Tk := if 4096 < s.size then [] else (lexAt s 0).getD []
def lexE (s : ByteArray) : Int := if 4096 < s.size then 2 else if (lexAt s 0).isSome then 0 else 1
theorem lex_long {s : ByteArray} (h : 4096 < s.size) : lexT s = [] ∧ lexE s = 2 := ⟨if_pos h, if_pos h⟩
theorem lex_no {s : ByteArray} (h : ¬ 4096 < s.size) (hn : lexAt s 0 = none) : lexT s = [] ∧ lexE s = 1 := by
  unfold lexT lexE; rw [if_neg h, if_neg h, hn]; exact ⟨rfl, rfl⟩
theorem lex_yes {s : ByteArray} {ts : List Tk} (h : ¬ 4096 < s.size) (hn : lexAt s 0 = some ts) : lexT s = ts ∧ lexE s = 0 := by
  unfold lexT lexE; rw [if_neg h, if_neg h, hn]; exact ⟨rfl, rfl⟩

/- Bytes. -/
theorem sign_plain {c : UInt8} (h : Lx.signB c = true) : Lx.alnB c = false ∧ blankB c = false := by
  unfold Lx.signB at h
  rw [List.contains_iff_mem] at h
  simp only [Lx.signs, List.mem_cons, List.not_mem_nil, or_false] at h
  rcases h with h | h | h | h | h | h | h | h | h | h | h | h | h | h | h | h | h | h | h
  all_goals subst h; exact ⟨rfl, rfl⟩
theorem blank_plain {c : UInt8} (h : blankB c = true) : Lx.alnB c = false ∧ Lx.signB c = false := by
  unfold blankB at h
  simp only [Bool.or_eq_true, beq_iff_eq] at h
  rcases h with h | h
  all_goals subst h; exact ⟨rfl, rfl⟩
theorem aln_plain {c : UInt8} (h : Lx.alnB c = true) : Lx.signB c = false ∧ blankB c = false := by
  constructor
  · cases hs : Lx.signB c with
    | false => rfl
    | true => rw [(sign_plain hs).1] at h; cases h
  · cases hs : blankB c with
    | false => rfl
    | true => rw [(blank_plain hs).1] at h; cases h
theorem piece_data (s : ByteArray) (a n : Nat) : (s.extract a (a + n)).data.toList = (s.data.toList.drop a).take n := by
  rw [Lib.extract_data, show a + n - a = n from by omega]
theorem drop_cons (s : ByteArray) (a : Nat) (h : a < s.size) : s.data.toList.drop a = s[a] :: s.data.toList.drop (a + 1) := by
  rw [List.drop_eq_getElem_cons (by rw [Lx.len_toList]; exact h)]; rfl
theorem run_zero (s : ByteArray) (a : Nat) (h : a < s.size) : Lx.runN s a = 0 ↔ Lx.alnB s[a] = false := by
  unfold Lx.runN Lx.runL
  rw [drop_cons s a h, List.takeWhile_cons]
  cases Lx.alnB s[a] <;> simp
theorem piece_one (s : ByteArray) (a : Nat) (h : a < s.size) : (s.extract a (a + 1)).data.toList = [s[a]] := by
  rw [piece_data, drop_cons s a h]; simp
/- a run of letters and digits is no sign -/
theorem run_no_sign (s : ByteArray) (a : Nat) (h : a < s.size) (hr : 0 < Lx.runN s a) : Lx.signL (s.extract a (a + Lx.runN s a)).data.toList = false := by
  have ha : Lx.alnB s[a] = true := by
    cases hb : Lx.alnB s[a] with
    | true => rfl
    | false => rw [(run_zero s a h).2 hb] at hr; omega
  rw [piece_data, drop_cons s a h]
  obtain ⟨m, hm⟩ : ∃ m, Lx.runN s a = m + 1 := ⟨Lx.runN s a - 1, by omega⟩
  rw [hm, List.take_succ_cons]
  cases hk : List.take m (s.data.toList.drop (a + 1)) with
  | nil => exact (aln_plain ha).1
  | cons x r => rfl
theorem run_aln (s : ByteArray) (a : Nat) (h : a < s.size) (hr : 0 < Lx.runN s a) : blankB s[a] = false ∧ Lx.pieceN s a = Lx.runN s a := by
  have ha : Lx.alnB s[a] = true := by
    cases hb : Lx.alnB s[a] with
    | true => rfl
    | false => rw [(run_zero s a h).2 hb] at hr; omega
  exact ⟨(aln_plain ha).2, Lx.pieceN_of s a _ hr rfl⟩
theorem tok_word (s : ByteArray) (a : Nat) (h : a < s.size) (hr : 0 < Lx.runN s a) (hn : Lx.nameB (s.extract a (a + Lx.runN s a)).data.toList = true) :
    tokOf (s.extract a (a + Lx.pieceN s a)) = some ⟨1, 0, s.extract a (a + Lx.runN s a)⟩ := by
  rw [(run_aln s a h hr).2]; unfold tokOf; rw [run_no_sign s a h hr, hn]; rfl
theorem tok_num (s : ByteArray) (a : Nat) (h : a < s.size) (hr : 0 < Lx.runN s a) (hn : Lx.nameB (s.extract a (a + Lx.runN s a)).data.toList = false) (hk : Lx.numOk (s.extract a (a + Lx.runN s a)).data.toList = true) :
    tokOf (s.extract a (a + Lx.pieceN s a)) = some ⟨2, Lx.valL (s.extract a (a + Lx.runN s a)).data.toList, ⟨#[]⟩⟩ := by
  rw [(run_aln s a h hr).2]; unfold tokOf; rw [run_no_sign s a h hr, hn, hk]; rfl
theorem tok_bad (s : ByteArray) (a : Nat) (h : a < s.size) (hr : 0 < Lx.runN s a) (hn : Lx.nameB (s.extract a (a + Lx.runN s a)).data.toList = false) (hk : Lx.numOk (s.extract a (a + Lx.runN s a)).data.toList = false) :
    tokOf (s.extract a (a + Lx.pieceN s a)) = none := by
  rw [(run_aln s a h hr).2]; unfold tokOf; rw [run_no_sign s a h hr, hn, hk]; rfl
theorem piece_lone (s : ByteArray) (a : Nat) (hr : Lx.runN s a = 0) : Lx.pieceN s a = 1 := by unfold Lx.pieceN; rw [if_pos hr]
theorem tok_sign (s : ByteArray) (a : Nat) (h : a < s.size) (hr : Lx.runN s a = 0) (hs : Lx.signB s[a] = true) :
    tokOf (s.extract a (a + Lx.pieceN s a)) = some ⟨3, 0, s.extract a (a + 1)⟩ := by
  rw [piece_lone s a hr]; unfold tokOf; rw [piece_one s a h]
  have : Lx.signL [s[a]] = true := hs
  rw [this]; rfl
theorem tok_else (s : ByteArray) (a : Nat) (h : a < s.size) (hr : Lx.runN s a = 0) (hs : Lx.signB s[a] = false) :
    tokOf (s.extract a (a + Lx.pieceN s a)) = none := by
  have hal := (run_zero s a h).1 hr
  have hl : Lx.letB s[a] = false := by unfold Lx.alnB at hal; simp at hal; exact hal.1
  have hd : Lx.digB s[a] = false := by unfold Lx.alnB at hal; simp at hal; exact hal.2
  rw [piece_lone s a hr]; unfold tokOf; rw [piece_one s a h]
  have h1 : Lx.signL [s[a]] = false := hs
  have h2 : Lx.nameB [s[a]] = false := by unfold Lx.nameB; simp [Lx.headLet, hl]
  have h3 : Lx.numOk [s[a]] = false := Lx.numOk_nondigit _ (by simp [hd])
  rw [h1, h2, h3]; rfl

/- The cells of tokens. -/
def tkCells (t : Tk) : List Value := [.int .i64 t.kind, .int .i64 t.n, .string t.text]
def cellsOf (ts : List Tk) : List Value := ts.flatMap tkCells
theorem cellsOf_snoc (ts : List Tk) (t : Tk) : cellsOf (ts ++ [t]) = cellsOf ts ++ tkCells t := by simp [cellsOf, List.flatMap_append]
theorem cellsOf_get : ∀ (ts : List Tk) (i : Nat) (h : i < ts.length), (cellsOf ts)[i * 3]? = some (.int .i64 ts[i].kind) ∧ (cellsOf ts)[i * 3 + 1]? = some (.int .i64 ts[i].n) ∧ (cellsOf ts)[i * 3 + 2]? = some (.string ts[i].text)
  | [], i, h => by simp at h
  | t :: r, 0, _ => ⟨rfl, rfl, rfl⟩
  | t :: r, i + 1, h => by
    have ih := cellsOf_get r i (by simpa using h)
    have e : cellsOf (t :: r) = .int .i64 t.kind :: .int .i64 t.n :: .string t.text :: cellsOf r := by simp [cellsOf, tkCells]
    rw [e, show (i + 1) * 3 = i * 3 + 1 + 1 + 1 from by omega]
    simpa using ih
def AllFit (ts : List Tk) : Prop := ∀ i (h : i < ts.length), ts[i].fits
theorem AllFit.nil : AllFit [] := fun i h => by simp at h
theorem AllFit.snoc {ts : List Tk} {t : Tk} (h : AllFit ts) (ht : t.fits) : AllFit (ts ++ [t]) := by
  intro i hi
  by_cases hl : i < ts.length
  · rw [List.getElem_append_left hl]; exact h i hl
  · have : i = ts.length := by simp at hi; omega
    subst this
    simp; exact ht
theorem owned_toks {w : World} {B : Nat} {v : Value} {ts : List Tk} (h : w.ownsRow B 41 3 v ts.length (cellsOf ts)) (hf : AllFit ts) : ∃ a cap, v = .slice a ts.length cap ∧ ToksAt w a ts := by
  obtain ⟨h1, h2⟩ := h
  rcases h2 with ⟨hv, h0⟩ | ⟨g, cap, cur, hv, hg, hc, hn, hm, hsz, htk⟩
  · have : ts = [] := List.eq_nil_of_length_eq_zero h0
    subst this
    exact ⟨none, 0, hv, Or.inl rfl⟩
  · refine ⟨some ⟨g, 0, none⟩, cap, hv, Or.inr ⟨g, 0, rfl, lt_of_heap hc, ?_, ?_, ?_, hf⟩⟩
    all_goals
      intro i hi
      have hx := cellsOf_get ts i hi
      rw [Lib.cell_of_heap hc]
      rw [← htk] at hx
      simp only [List.getElem?_take, Array.getElem?_toList] at hx
      rw [if_pos (by omega), if_pos (by omega), if_pos (by omega)] at hx
      simp only [Nat.zero_add]
    · exact hx.1
    · exact hx.2.1
    · exact hx.2.2

end Go.Proofs.YtfiejjaocfcheaaDoor
