/-
  What names stand for, in memory: the maps of package scope; find and routine.
-/
import Derived.Test.YtndkhgakfodldaaGreatDoorLexp
import Derived.Test.YtndkhgakfodldaaGreatDoorCe
import Derived.Maps.OwnSet
import Derived.DeepKeys4
import Derived.Deep.QuietTactic
import Derived.BigQuiet
namespace Go.Proofs.YtndkhgakfodldaaGreatDoor
open Go.RowKit Go.Maps Go.WideMaps

def Mg.val (x : Mg) : Value := .agg #[.int .i64 x.kind, .int .i64 x.n, .int .i64 x.m, .int .i64 x.at_]
/- The maps, as what a look at them answers, now and later. -/
def KnAt (w : World) (v : Value) (K : Kn) : Prop := ∀ w', Below w.heap.size w w' → ∀ mod name : ByteArray, mod.size ≤ maxLen → name.size ≤ maxLen →
  (Instr.lookup 187 v (.agg #[.string mod, .string name]) true).run Tryz.prog w' = .ok (.tuple #[((K mod name).getD mg0).val, .bool (K mod name).isSome]) w'
def LcAt (w : World) (v : Value) (L : Lc) : Prop := ∀ w', Below w.heap.size w w' → ∀ s : ByteArray, s.size ≤ maxLen →
  (Instr.lookup 185 v (.string s) true).run Tryz.prog w' = .ok (.tuple #[.int .i64 ((L s).getD 0), .bool (L s).isSome]) w'
theorem KnAt.later {w w' : World} {v : Value} {K : Kn} (h : KnAt w v K) (hb : Below w.heap.size w w') : KnAt w' v K := fun w'' h' mod name => h w'' (thenB hb h') mod name
theorem LcAt.later {w w' : World} {v : Value} {L : Lc} (h : LcAt w v L) (hb : Below w.heap.size w w') : LcAt w' v L := fun w'' h' s => h w'' (thenB hb h') s

/- Is a number one of a few? -/
def IntsIn (w : World) (b : Nat) (l : List Int) : Prop := b < w.heap.size ∧ ∀ j (h : j < l.length), w.cell? ⟨b, j, none⟩ = some (.int .i64 l[j])
theorem IntsIn.later {w w' : World} {b : Nat} {l : List Int} (h : IntsIn w b l) (hb : Below w.heap.size w w') : IntsIn w' b l :=
  ⟨Nat.lt_of_lt_of_le h.1 hb.size, fun j hj => (hb.cell (p := ⟨b, j, none⟩) h.1).trans (h.2 j hj)⟩
def idxI (l : List Int) (x : Int) : Int := match l.findIdx? (fun y => x == y) with | some i => (i : Int) | none => -1
theorem idxI_at {l : List Int} {x : Int} {j : Nat} (h : j < l.length) (hn : ∀ i (hi : i < l.length), i < j → x ≠ l[i]) (e : x = l[j]) : idxI l x = j := by
  unfold idxI
  have : l.findIdx? (fun y => x == y) = some j := by
    rw [List.findIdx?_eq_some_iff_getElem]
    exact ⟨h, by simp [e], fun i hi => by have := hn i (by omega) hi; simpa using this⟩
  rw [this]
theorem idxI_no {l : List Int} {x : Int} (hn : ∀ i (hi : i < l.length), x ≠ l[i]) : idxI l x = -1 := by
  unfold idxI
  have : l.findIdx? (fun y => x == y) = none := by
    rw [List.findIdx?_eq_none_iff]
    intro y hy
    obtain ⟨i, hi, rfl⟩ := List.getElem_of_mem hy
    simpa using hn i hi
  rw [this]
theorem idxI_has (l : List Int) (x : Int) : decide (0 ≤ idxI l x) = l.contains x := by
  unfold idxI
  cases h : l.findIdx? (fun y => x == y) with
  | none =>
    rw [List.findIdx?_eq_none_iff] at h
    have : l.contains x = false := by
      rw [Bool.eq_false_iff]
      intro hc
      have := h x (by simpa using hc)
      simp at this
    rw [this]; rfl
  | some i =>
    rw [List.findIdx?_eq_some_iff_getElem] at h
    obtain ⟨hi, e, _⟩ := h
    have : l.contains x = true := by
      rw [List.contains_iff_mem]
      have e' : x = l[i] := by simpa using e
      rw [e']
      exact List.getElem_mem _
    rw [this]
    simp
set_option maxRecDepth 100000 in
set_option maxHeartbeats 800000 in
theorem indexI_any (l : List Int) (x : Int) (b cap : Nat) (w : World) (h : IntsIn w b l) (hl : l.length ≤ 1000) :
    Calls Tryz.prog 297 #[.slice (some ⟨b, 0, none⟩) l.length cap, .int .i64 x] w fun e w' => e = .returned (.int .i64 (idxI l x)) ∧ w' = w := by
  have HI := hid h.2
  have hbw := h.1
  clear h
  go_enter Tryz.func297, Tryz.ntmps297
  go_wp2_with fail
  go_loopw [8, 5] (fun i _ wr => ∃ k : Nat, k ≤ l.length ∧ i = .int .i64 k ∧ (∀ j (hj : j < l.length), j < k → x ≠ l[j]) ∧ wr = w) (fun i _ _ => l.length - (intOf i).toNat)
  case atStart => exact ⟨0, Nat.zero_le _, rfl, fun _ _ h => by omega, rfl⟩
  case round =>
    obtain ⟨k, hk, rfl, hno, rfl⟩ := hrel
    have HN := hid hno
    clear hno
    by_cases hlt : k < l.length
    · have c0 := HI.out k hlt
      by_cases hx : x = l[k]
      · have HE := hid (idxI_at hlt (fun i hi h => HN.out i hi h) hx)
        have hx' : (x == l[k]) = true := by rw [← hx]; simp
        generalize l[k] = y at *
        subst hx
        go_wp2_with fail
        go_ret
        exact ⟨ret_int HE.out.symm, rfl⟩
      · have HS : Hid (∀ j (hj : j < l.length), j < k + 1 → x ≠ l[j]) := fun j hj h => by
          rcases Nat.lt_or_ge j k with h' | h'
          · exact HN.out j hj h'
          · obtain rfl : j = k := by omega
            exact hx
        generalize l[k] = y at *
        go_wp2_with fail
        go_roundw
        case rel => exact ⟨k + 1, by omega, by go_num, HS.out, trivial⟩
        case measure => simp [intOf]; omega
    · have HE := hid (idxI_no (fun i hi => HN.out i hi (by omega)))
      obtain rfl : k = l.length := by omega
      go_wp2_with fail
      go_ret
      exact ⟨ret_int HE.out.symm, rfl⟩
set_option maxRecDepth 100000 in
theorem containsI_any (l : List Int) (x : Int) (b cap : Nat) (w : World) (h : IntsIn w b l) (hl : l.length ≤ 1000) :
    Calls Tryz.prog 287 #[.slice (some ⟨b, 0, none⟩) l.length cap, .int .i64 x] w fun e w' => e = .returned (.bool (l.contains x)) ∧ w' = w := by
  have HC := hid (indexI_any l x b cap w h hl)
  have HH := hid (idxI_has l x)
  clear h hl
  generalize idxI l x = i at *
  go_enter Tryz.func287, Tryz.ntmps287
  go_wp2_with (go_at_call 297; refine HC.out.mono ?_; rintro e w' ⟨rfl, rfl⟩)
  go_ret
  exact ⟨ret_bool HH.out, rfl⟩
end Go.Proofs.YtndkhgakfodldaaGreatDoor

namespace Go.Proofs.YtndkhgakfodldaaGreatDoor
open Go.RowKit

abbrev tModule : ByteArray := ⟨#[109, 111, 100, 117, 108, 101]⟩
abbrev tUse : ByteArray := ⟨#[117, 115, 101]⟩
abbrev tPub : ByteArray := ⟨#[112, 117, 98]⟩
abbrev tConst : ByteArray := ⟨#[99, 111, 110, 115, 116]⟩
abbrev tVar : ByteArray := ⟨#[118, 97, 114]⟩
abbrev tArray : ByteArray := ⟨#[97, 114, 114, 97, 121]⟩
abbrev tProc : ByteArray := ⟨#[112, 114, 111, 99]⟩
abbrev tLocal : ByteArray := ⟨#[108, 111, 99, 97, 108]⟩
abbrev tMain : ByteArray := ⟨#[109, 97, 105, 110]⟩
abbrev tIf : ByteArray := ⟨#[105, 102]⟩
abbrev tElse : ByteArray := ⟨#[101, 108, 115, 101]⟩
abbrev tWhile : ByteArray := ⟨#[119, 104, 105, 108, 101]⟩
abbrev tReturn : ByteArray := ⟨#[114, 101, 116, 117, 114, 110]⟩
abbrev tOut : ByteArray := ⟨#[111, 117, 116]⟩
abbrev tIn : ByteArray := ⟨#[105, 110]⟩
abbrev tLb : ByteArray := ⟨#[123]⟩
abbrev tRb : ByteArray := ⟨#[125]⟩
abbrev tLp : ByteArray := ⟨#[40]⟩
abbrev tRp : ByteArray := ⟨#[41]⟩
abbrev tLs : ByteArray := ⟨#[91]⟩
abbrev tRs : ByteArray := ⟨#[93]⟩
abbrev tCom : ByteArray := ⟨#[44]⟩
abbrev tSem : ByteArray := ⟨#[59]⟩
abbrev tEq : ByteArray := ⟨#[61]⟩
abbrev tDot : ByteArray := ⟨#[46]⟩
abbrev tNot : ByteArray := ⟨#[33]⟩
def kepts : List (List UInt8) := [[109, 111, 100, 117, 108, 101], [117, 115, 101], [112, 117, 98], [99, 111, 110, 115, 116], [118, 97, 114], [97, 114, 114, 97, 121], [112, 114, 111, 99], [108, 111, 99, 97, 108], [109, 97, 105, 110], [105, 102], [101, 108, 115, 101], [119, 104, 105, 108, 101], [114, 101, 116, 117, 114, 110], [111, 117, 116], [105, 110]]
def opTexts : List ByteArray := [⟨#[38]⟩, ⟨#[124]⟩, ⟨#[43]⟩, ⟨#[45]⟩, ⟨#[42]⟩, ⟨#[47]⟩, ⟨#[37]⟩, ⟨#[61]⟩, ⟨#[60]⟩]
def keptP (s : ByteArray) : Bool := kepts.any (fun k => s.toList == k)
def noTk : Tk := ⟨0, 0, ⟨#[]⟩⟩
def hd (l : List Tk) : Tk := l.getD 0 noTk
def skB (l : List Tk) (t : ByteArray) : Bool := (hd l).text.toList == t.toList
/- the first of some texts that stands there -/
def mustB (l : List Tk) (ts : List ByteArray) : Option ByteArray := ts.find? (fun t => skB l t)

def pName (l : List Tk) : Option (ByteArray × List Tk) := if ((hd l).kind == 1 && !keptP (hd l).text) = true then some ((hd l).text, l.tail) else none
def pNum (l : List Tk) : Option (Int × List Tk) := if (hd l).kind = 2 then some ((hd l).n, l.tail) else none
def pRef (l : List Tk) : Option ((ByteArray × ByteArray) × List Tk) :=
  match pName l with
  | none => none
  | some (a, l1) => if skB l1 tDot then (match pName l1.tail with | none => none | some (b, l2) => some ((a, b), l2)) else some ((⟨#[]⟩, a), l1)
def opOf (l : List Tk) : Option Nat := opTexts.findIdx? (fun t => skB l t)

mutual
def pExpr : Nat → List Tk → Option (Ex × List Tk)
  | 0, _ => none
  | f + 1, l =>
    if (hd l).kind = 2 then some (.mk 1 (hd l).n ⟨#[]⟩ ⟨#[]⟩ [], l.tail)
    else if skB l tIn then some (.mk 2 0 ⟨#[]⟩ ⟨#[]⟩ [], l.tail)
    else if skB l tNot then (match pExpr f l.tail with | none => none | some (x, l1) => some (.mk 6 0 ⟨#[]⟩ ⟨#[]⟩ [x], l1))
    else if skB l tLp then pPair f l.tail
    else match pRef l with
      | none => none
      | some ((m, n), l1) =>
        if skB l1 tLs then (match pExpr f l1.tail with | none => none | some (x, l2) => if skB l2 tRs then some (.mk 4 0 m n [x], l2.tail) else none)
        else if skB l1 tLp then (match pArgs f l1.tail with | none => none | some (xs, l2) => some (.mk 5 0 m n xs, l2))
        else some (.mk 3 0 m n [], l1)
def pPair : Nat → List Tk → Option (Ex × List Tk)
  | 0, _ => none
  | f + 1, l =>
    match pExpr f l with
    | none => none
    | some (a, l1) => match opOf l1 with
      | none => none
      | some k => match pExpr f l1.tail with
        | none => none
        | some (b, l2) => if skB l2 tRp then some (.mk (7 + k) 0 ⟨#[]⟩ ⟨#[]⟩ [a, b], l2.tail) else none
def pArgs : Nat → List Tk → Option (List Ex × List Tk)
  | 0, _ => none
  | f + 1, l =>
    if skB l tRp then some ([], l.tail)
    else match pExpr f l with
      | none => none
      | some (x, l1) => pMore f [x] l1
def pMore : Nat → List Ex → List Tk → Option (List Ex × List Tk)
  | 0, _, _ => none
  | f + 1, acc, l =>
    if skB l tCom then (match pExpr f l.tail with | none => none | some (x, l1) => pMore f (acc ++ [x]) l1)
    else if skB l tRp then some (acc, l.tail) else none
end

/- reading makes what is left shorter -/
theorem skB_ne {l : List Tk} {t : ByteArray} (ht : 0 < t.size) (h : skB l t = true) : l ≠ [] := by
  rintro rfl
  unfold skB at h
  have e : (hd ([] : List Tk)).text.toList = [] := by rw [Lib.toList_data]; rfl
  rw [e, Lib.toList_data] at h
  have h1 : t.data.toList = [] := (beq_iff_eq.1 h).symm
  have h2 := Lx.len_toList t
  rw [h1] at h2
  simp at h2
  omega
theorem tail_lt {l : List Tk} (h : l ≠ []) : l.tail.length < l.length := by cases l with | nil => exact absurd rfl h | cons x r => simp
theorem skB_lt {l : List Tk} {t : ByteArray} (ht : 0 < t.size) (h : skB l t = true) : l.tail.length < l.length := tail_lt (skB_ne ht h)
theorem kind_ne {l : List Tk} (h : (hd l).kind ≠ 0) : l ≠ [] := by rintro rfl; exact h rfl
theorem pName_lt {l l' : List Tk} {a : ByteArray} (h : pName l = some (a, l')) : l'.length < l.length := by
  unfold pName at h
  split at h
  · rename_i hk
    have hk' : (hd l).kind = 1 := by
      simp only [Bool.and_eq_true, beq_iff_eq] at hk; exact hk.1
    obtain ⟨_, rfl⟩ := Prod.mk.inj (Option.some.inj h)
    exact tail_lt (kind_ne (by rw [hk']; decide))
  · cases h
theorem pNum_lt {l l' : List Tk} {a : Int} (h : pNum l = some (a, l')) : l'.length < l.length := by
  unfold pNum at h
  split at h
  · rename_i hk
    obtain ⟨_, rfl⟩ := Prod.mk.inj (Option.some.inj h)
    exact tail_lt (kind_ne (by rw [hk]; decide))
  · cases h
theorem pRef_lt {l l' : List Tk} {a : ByteArray × ByteArray} (h : pRef l = some (a, l')) : l'.length < l.length := by
  unfold pRef at h
  split at h
  · cases h
  · rename_i a1 l1 h1
    have := pName_lt h1
    split at h
    · rename_i hs
      have := skB_lt (by decide) hs
      split at h
      · cases h
      · rename_i b l2 h2
        have := pName_lt h2
        obtain ⟨_, rfl⟩ := Prod.mk.inj (Option.some.inj h)
        omega
    · obtain ⟨_, rfl⟩ := Prod.mk.inj (Option.some.inj h)
      omega
theorem opOf_ne {l : List Tk} {k : Nat} (h : opOf l = some k) : l ≠ [] := by
  unfold opOf at h
  obtain ⟨hk, h2, _⟩ := List.findIdx?_eq_some_iff_getElem.1 h
  have : 0 < (opTexts[k]).size := by
    have : ∀ x ∈ opTexts, 0 < x.size := by decide
    exact this _ (List.getElem_mem hk)
  exact skB_ne this h2

mutual
theorem pExpr_lt : ∀ (f : Nat) (l l' : List Tk) (x : Ex), pExpr f l = some (x, l') → l'.length < l.length
  | 0, _, _, _, h => by simp [pExpr] at h
  | f + 1, l, l', x, h => by
    unfold pExpr at h
    split at h
    · rename_i hk
      obtain ⟨_, rfl⟩ := Prod.mk.inj (Option.some.inj h)
      exact tail_lt (kind_ne (by rw [hk]; decide))
    split at h
    · rename_i hs
      obtain ⟨_, rfl⟩ := Prod.mk.inj (Option.some.inj h)
      exact skB_lt (by decide) hs
    split at h
    · rename_i hs
      have := skB_lt (by decide) hs
      split at h
      · cases h
      · rename_i y l1 h1
        have := pExpr_lt f _ _ _ h1
        obtain ⟨_, rfl⟩ := Prod.mk.inj (Option.some.inj h)
        omega
    split at h
    · rename_i hs
      have := skB_lt (by decide) hs
      have := pPair_lt f _ _ _ h
      omega
    split at h
    · cases h
    · rename_i m n l1 h1
      have := pRef_lt h1
      split at h
      · rename_i hs
        have := skB_lt (by decide) hs
        split at h
        · cases h
        · rename_i y l2 h2
          have := pExpr_lt f _ _ _ h2
          split at h
          · rename_i hs2
            have := skB_lt (by decide) hs2
            obtain ⟨_, rfl⟩ := Prod.mk.inj (Option.some.inj h)
            omega
          · cases h
      split at h
      · rename_i hs
        have := skB_lt (by decide) hs
        split at h
        · cases h
        · rename_i y l2 h2
          have := pArgs_lt f _ _ _ h2
          obtain ⟨_, rfl⟩ := Prod.mk.inj (Option.some.inj h)
          omega
      · obtain ⟨_, rfl⟩ := Prod.mk.inj (Option.some.inj h)
        omega
theorem pPair_lt : ∀ (f : Nat) (l l' : List Tk) (x : Ex), pPair f l = some (x, l') → l'.length < l.length
  | 0, _, _, _, h => by simp [pPair] at h
  | f + 1, l, l', x, h => by
    unfold pPair at h
    split at h
    · cases h
    · rename_i a l1 h1
      have := pExpr_lt f _ _ _ h1
      split at h
      · cases h
      · rename_i k hk
        have := tail_lt (opOf_ne hk)
        split at h
        · cases h
        · rename_i b l2 h2
          have := pExpr_lt f _ _ _ h2
          split at h
          · rename_i hs2
            have := skB_lt (by decide) hs2
            obtain ⟨_, rfl⟩ := Prod.mk.inj (Option.some.inj h)
            omega
          · cases h
theorem pArgs_lt : ∀ (f : Nat) (l l' : List Tk) (x : List Ex), pArgs f l = some (x, l') → l'.length < l.length
  | 0, _, _, _, h => by simp [pArgs] at h
  | f + 1, l, l', x, h => by
    unfold pArgs at h
    split at h
    · rename_i hs
      obtain ⟨_, rfl⟩ := Prod.mk.inj (Option.some.inj h)
      exact skB_lt (by decide) hs
    split at h
    · cases h
    · rename_i y l1 h1
      have := pExpr_lt f _ _ _ h1
      have := pMore_lt f _ _ _ _ h
      omega
theorem pMore_lt : ∀ (f : Nat) (acc : List Ex) (l l' : List Tk) (x : List Ex), pMore f acc l = some (x, l') → l'.length < l.length
  | 0, _, _, _, _, h => by simp [pMore] at h
  | f + 1, acc, l, l', x, h => by
    unfold pMore at h
    split at h
    · rename_i hs
      have := skB_lt (by decide) hs
      split at h
      · cases h
      · rename_i y l1 h1
        have := pExpr_lt f _ _ _ h1
        have := pMore_lt f _ _ _ _ h
        omega
    split at h
    · rename_i hs
      obtain ⟨_, rfl⟩ := Prod.mk.inj (Option.some.inj h)
      exact skB_lt (by decide) hs
    · cases h
end
/- an expression of so many tokens -/
def pX (l : List Tk) : Option (Ex × List Tk) := pExpr (3 * l.length + 8) l
def pAs (l : List Tk) : Option (List Ex × List Tk) := pArgs (3 * l.length + 8) l
theorem pX_lt {l l' : List Tk} {x : Ex} (h : pX l = some (x, l')) : l'.length < l.length := pExpr_lt _ _ _ _ h
theorem pAs_lt {l l' : List Tk} {x : List Ex} (h : pAs l = some (x, l')) : l'.length < l.length := pArgs_lt _ _ _ _ h

/- a statement that begins with a name, but for its end -/
def pNamed (l : List Tk) : Option (St × List Tk) :=
  match pRef l with
  | none => none
  | some ((m, n), l1) =>
    if skB l1 tEq then (match pX l1.tail with | none => none | some (x, l2) => some (.mk 1 m n [x] [] [], l2))
    else if skB l1 tLs then (match pX l1.tail with
      | none => none
      | some (x, l2) => if skB l2 tRs then (if skB l2.tail tEq then (match pX l2.tail.tail with | none => none | some (y, l3) => some (.mk 2 m n [x, y] [] [], l3)) else none) else none)
    else if skB l1 tLp then (match pAs l1.tail with | none => none | some (xs, l2) => some (.mk 3 m n xs [] [], l2))
    else none
def pEnded (r : Option (St × List Tk)) : Option (St × List Tk) := match r with | none => none | some (s, l) => if skB l tSem then some (s, l.tail) else none

mutual
def pStmt : Nat → List Tk → Option (St × List Tk)
  | 0, _ => none
  | f + 1, l =>
    if skB l tIf then (match pX l.tail with
      | none => none
      | some (x, l1) => match pBlock f l1 with
        | none => none
        | some (b, l2) => if skB l2 tElse then (match pBlock f l2.tail with | none => none | some (o, l3) => if o.length = 0 then none else some (.mk 4 ⟨#[]⟩ ⟨#[]⟩ [x] b o, l3))
          else some (.mk 4 ⟨#[]⟩ ⟨#[]⟩ [x] b [], l2))
    else if skB l tWhile then (match pX l.tail with
      | none => none
      | some (x, l1) => match pBlock f l1 with | none => none | some (b, l2) => some (.mk 5 ⟨#[]⟩ ⟨#[]⟩ [x] b [], l2))
    else if skB l tReturn then pEnded (match pX l.tail with | none => none | some (x, l1) => some (.mk 6 ⟨#[]⟩ ⟨#[]⟩ [x] [] [], l1))
    else if skB l tOut then pEnded (match pX l.tail with | none => none | some (x, l1) => some (.mk 7 ⟨#[]⟩ ⟨#[]⟩ [x] [] [], l1))
    else pEnded (pNamed l)
def pBlock : Nat → List Tk → Option (List St × List Tk)
  | 0, _ => none
  | f + 1, l => if skB l tLb then pStmts f [] l.tail else none
def pStmts : Nat → List St → List Tk → Option (List St × List Tk)
  | 0, _, _ => none
  | f + 1, acc, l =>
    if skB l tRb then some (acc, l.tail)
    else match pStmt f l with | none => none | some (s, l1) => pStmts f (acc ++ [s]) l1
end

end Go.Proofs.YtndkhgakfodldaaGreatDoor

namespace Go.Proofs.YtndkhgakfodldaaGreatDoor
open Go.RowKit

/- Everything that was there stays, but for the reader's own block. -/
structure Keeps (R : Nat) (w w' : World) : Prop where
  os : w'.os = w.os
  tape : w'.tape = w.tape
  output : w'.output = w.output
  size : w.heap.size ≤ w'.heap.size
  block : ∀ k, k < w.heap.size → k ≠ R → w'.heap[k]? = w.heap[k]?
theorem Keeps.refl (R : Nat) (w : World) : Keeps R w w := ⟨rfl, rfl, rfl, Nat.le_refl _, fun _ _ _ => rfl⟩
theorem Keeps.trans {R : Nat} {a b c : World} (h : Keeps R a b) (k : Keeps R b c) : Keeps R a c :=
  ⟨k.os.trans h.os, k.tape.trans h.tape, k.output.trans h.output, Nat.le_trans h.size k.size, fun i h1 h2 => (k.block i (Nat.lt_of_lt_of_le h1 h.size) h2).trans (h.block i h1 h2)⟩
theorem Keeps.of_below {w w' : World} (h : Below w.heap.size w w') (R : Nat) : Keeps R w w' := ⟨h.os, h.tape, h.output, h.size, fun k h1 _ => h.block k h1⟩
theorem Keeps.setCell (R : Nat) (w : World) (j : Nat) (u : Value) : Keeps R w (w.setCell ⟨R, j, none⟩ u) :=
  ⟨rfl, rfl, rfl, by rw [World.size_setCell]; exact Nat.le_refl _, fun k _ h2 => Below.heap_setCell w ⟨R, j, none⟩ u k h2⟩
theorem Keeps.stays {R lo : Nat} {w w' : World} (h : Keeps R w w') (hR : R < lo) : Stays lo w w' := ⟨h.size, fun k h1 h2 => h.block k h2 (by omega)⟩
theorem Keeps.cell {R : Nat} {w w' : World} (h : Keeps R w w') {b off : Nat} (h1 : b < w.heap.size) (h2 : b ≠ R) : w'.cell? ⟨b, off, none⟩ = w.cell? ⟨b, off, none⟩ :=
  World.cell?_of_block (w := w) (h.block b h1 h2)

theorem Keeps.later {R : Nat} {w w1 w2 : World} (h : Keeps R w w1) (hb : Below w1.heap.size w1 w2) : Keeps R w w2 := h.trans (Keeps.of_below hb R)
theorem Keeps.alloc {R : Nat} {w w1 : World} (h : Keeps R w w1) (o : Obj) : Keeps R w (w1.alloc o) := h.later ((Below.refl _ _).alloc (Nat.le_refl _) o)
theorem Keeps.own {R : Nat} {w w1 : World} (h : Keeps R w w1) (j : Nat) (u : Value) : Keeps R w (w1.setCell ⟨R, j, none⟩ u) := h.trans (Keeps.setCell R w1 j u)
theorem Keeps.set {R : Nat} {w w1 : World} (h : Keeps R w w1) {p : Addr} (hp : w.heap.size ≤ p.block) (u : Value) : Keeps R w (w1.setCell p u) :=
  ⟨h.os, h.tape, h.output, by rw [World.size_setCell]; exact h.size, fun k h1 h2 => (Below.heap_setCell w1 p u k (by omega)).trans (h.block k h1 h2)⟩

/- The reader in block R: l is what it has not read yet. -/
structure Rd (R : Nat) (a : Option Addr) (cap : Nat) (ts : List Tk) (w : World) (l : List Tk) : Prop where
  idx : ∃ k : Nat, k ≤ ts.length ∧ l = ts.drop k ∧ w.heap[R]? = some (.cells #[.slice a ts.length cap, .int .i64 k] 239 (0, 0))
  toks : ToksAt w a ts
  ne : ts = [] ∨ ∀ b off, a = some ⟨b, off, none⟩ → b ≠ R
  len : ts.length ≤ 4096
theorem ToksAt.keeps {R : Nat} {w w' : World} {a : Option Addr} {ts : List Tk} (h : ToksAt w a ts) (hk : Keeps R w w') (hne : ts = [] ∨ ∀ b off, a = some ⟨b, off, none⟩ → b ≠ R) : ToksAt w' a ts := by
  rcases hne with h0 | hne
  · exact Or.inl h0
  rcases h with h | ⟨b, off, ha, h⟩
  · exact Or.inl h
  · have hb := hne b off ha
    have hl := h.lt
    exact Or.inr ⟨b, off, ha, Nat.lt_of_lt_of_le hl hk.size, fun i hi => (hk.cell hl hb).trans (h.kind i hi), fun i hi => (hk.cell hl hb).trans (h.num i hi), fun i hi => (hk.cell hl hb).trans (h.text i hi), h.fits⟩
section
variable {R cap : Nat} {a : Option Addr} {ts l : List Tk} {w w' : World}
theorem Rd.lt (h : Rd R a cap ts w l) : R < w.heap.size := by obtain ⟨k, _, _, hb⟩ := h.idx; exact lt_of_heap hb
theorem Rd.later (h : Rd R a cap ts w l) (hb : Below w.heap.size w w') : Rd R a cap ts w' l := by
  obtain ⟨k, h1, h2, h3⟩ := h.idx
  exact ⟨⟨k, h1, h2, (hb.block R (lt_of_heap h3)).trans h3⟩, h.toks.later hb, h.ne, h.len⟩
theorem Rd.at_ {l' : List Tk} {j : Nat} (h : Rd R a cap ts w l) (hk : Keeps R w w') (hj : j ≤ ts.length) (hl : l' = ts.drop j) (hb : w'.heap[R]? = some (.cells #[.slice a ts.length cap, .int .i64 j] 239 (0, 0))) : Rd R a cap ts w' l' :=
  ⟨⟨j, hj, hl, hb⟩, h.toks.keeps hk h.ne, h.ne, h.len⟩
/- the reader's own block has not changed either -/
theorem Rd.still (h : Rd R a cap ts w l) (hk : Keeps R w w') (hb : w'.heap[R]? = w.heap[R]?) : Rd R a cap ts w' l := by
  obtain ⟨k, h1, h2, h3⟩ := h.idx
  exact ⟨⟨k, h1, h2, hb.trans h3⟩, h.toks.keeps hk h.ne, h.ne, h.len⟩
theorem Rd.set (h : Rd R a cap ts w l) {p : Addr} (hp : p.block ≠ R) (ht : ∀ b off, a = some ⟨b, off, none⟩ → p.block ≠ b) (u : Value) : Rd R a cap ts (w.setCell p u) l := by
  obtain ⟨k, h1, h2, h3⟩ := h.idx
  refine ⟨⟨k, h1, h2, (Below.heap_setCell w p u R (Ne.symm hp)).trans h3⟩, ?_, h.ne, h.len⟩
  rcases h.toks with h4 | ⟨b, off, ha, h4⟩
  · exact Or.inl h4
  · have e : ∀ j, (w.setCell p u).cell? ⟨b, j, none⟩ = w.cell? ⟨b, j, none⟩ := fun j => World.cell?_of_block (w := w) (Below.heap_setCell w p u b (Ne.symm (ht b off ha)))
    exact Or.inr ⟨b, off, ha, by rw [World.size_setCell]; exact h4.lt, fun i hi => (e _).trans (h4.kind i hi), fun i hi => (e _).trans (h4.num i hi), fun i hi => (e _).trans (h4.text i hi), h4.fits⟩
theorem Rd.alloc (h : Rd R a cap ts w l) (o : Obj) : Rd R a cap ts (w.alloc o) l := h.later ((Below.refl _ _).alloc (Nat.le_refl _) o)
/- cells that came behind the reader and its tokens -/
theorem Rd.setAbove {w0 : World} {l0 : List Tk} (h : Rd R a cap ts w l) (h0 : Rd R a cap ts w0 l0) {p : Addr} (hp : w0.heap.size ≤ p.block) (u : Value) : Rd R a cap ts (w.setCell p u) l := by
  refine ⟨?_, ?_, h.ne, h.len⟩
  · obtain ⟨k, h1, h2, h3⟩ := h.idx
    exact ⟨k, h1, h2, (Below.heap_setCell w p u R (by have := lt_of_heap h0.idx.choose_spec.2.2; omega)).trans h3⟩
  rcases h0.toks with h4 | ⟨b, off, ha, h4⟩
  · exact Or.inl h4
  · rcases h.toks with h5 | ⟨b', off', ha', h5⟩
    · exact Or.inl h5
    · have eq : b' = b := by rw [ha] at ha'; injection ha' with ha'; injection ha' with e1 e2; exact e1.symm
      subst eq
      have e : ∀ j, (w.setCell p u).cell? ⟨b', j, none⟩ = w.cell? ⟨b', j, none⟩ := fun j => World.cell?_of_block (w := w) (Below.heap_setCell w p u b' (by have := h4.lt; omega))
      exact Or.inr ⟨b', off', ha', by rw [World.size_setCell]; exact h5.lt, fun i hi => (e _).trans (h5.kind i hi), fun i hi => (e _).trans (h5.num i hi), fun i hi => (e _).trans (h5.text i hi), h5.fits⟩
theorem Rd.adv {k : Nat} (h : Rd R a cap ts w (ts.drop k)) (hk : k < ts.length) (hb : w.heap[R]? = some (.cells #[.slice a ts.length cap, .int .i64 k] 239 (0, 0))) :
    Rd R a cap ts (w.setCell ⟨R, 1, none⟩ (.int .i64 ((k : Int) + 1))) (ts.drop (k + 1)) := by
  refine ⟨⟨k + 1, by omega, rfl, ?_⟩, h.toks.keeps (Keeps.setCell R w 1 _) h.ne, h.ne, h.len⟩
  simp [World.setCell, Array.getElem?_modify, hb]
end

set_option maxRecDepth 100000 in
set_option maxHeartbeats 800000 in
theorem ahead_any (R cap n : Nat) (a : Option Addr) (ts l : List Tk) (w : World) (hn : n ≤ 1) (h : Rd R a cap ts w l) :
    Calls Tryz.prog 252 #[.pointer (some ⟨R, 0, none⟩), .int .i64 n] w fun e w' => e = .returned (Tk.val (l.getD n noTk)) ∧ Below w.heap.size w w' := by
  obtain ⟨k, hk, rfl, hb⟩ := h.idx
  have hc0 : w.cell? ⟨R, 0, none⟩ = some (.slice a ts.length cap) := by rw [Lib.cell_of_heap hb]; rfl
  have hc1 : w.cell? ⟨R, 1, none⟩ = some (.int .i64 k) := by rw [Lib.cell_of_heap hb]; rfl
  have hlt := h.lt
  have hlen := h.len
  by_cases hkn : k + n < ts.length
  · have HV : Hid (Tk.val ((ts.drop k).getD n noTk) = .agg #[.int .i64 ts[k + n].kind, .int .i64 ts[k + n].n, .string ts[k + n].text]) := by
      show Tk.val _ = _
      rw [List.getD_eq_getElem?_getD, List.getElem?_eq_getElem (by rw [List.length_drop]; omega), Option.getD_some, List.getElem_drop]
      rfl
    obtain ⟨b, off, rfl, hT⟩ := h.toks.place hkn
    have hd0 := hT.kind (k + n) hkn
    have hd1 := hT.num (k + n) hkn
    have hd2 := hT.text (k + n) hkn
    have hbl := hT.lt
    clear hT h hb
    go_enter Tryz.func252, Tryz.ntmps252
    go_wp2_with fail
    go_quiet ((fail))
    go_wp2_with fail
    go_region
    go_wp2_with fail
    refine bodyPost_ret (v := .agg #[.int .i64 ts[k + n].kind, .int .i64 ts[k + n].n, .string ts[k + n].text]) (by simp [results, Tryz.results252, go_sem]) rfl ⟨by rw [HV.out], ?_⟩
    exact (((below_drewN ((Below.refl _ _).alloc (Nat.le_refl _) _) _).setCell (p := ⟨w.heap.size, 0, none⟩) (Nat.le_refl _) _).setCell (p := ⟨w.heap.size, 1, none⟩) (Nat.le_refl _) _).setCell (p := ⟨w.heap.size, 2, none⟩) (Nat.le_refl _) _
  · have HV : Hid (Tk.val ((ts.drop k).getD n noTk) = .agg #[.int .i64 0, .int .i64 0, .string ⟨#[]⟩]) := by
      show Tk.val _ = _
      rw [List.getD_eq_getElem?_getD, List.getElem?_eq_none (by rw [List.length_drop]; omega)]
      rfl
    clear h hb
    go_enter Tryz.func252, Tryz.ntmps252
    go_wp2_with fail
    go_quiet ((fail))
    go_wp2_with fail
    refine bodyPost_ret (v := .agg #[.int .i64 0, .int .i64 0, .string ⟨#[]⟩]) (by simp [results, Tryz.results252, go_sem]) rfl ⟨by rw [HV.out], ?_⟩
    exact (((below_drewN ((Below.refl _ _).alloc (Nat.le_refl _) _) _).setCell (p := ⟨w.heap.size, 0, none⟩) (Nat.le_refl _) _).setCell (p := ⟨w.heap.size, 1, none⟩) (Nat.le_refl _) _).setCell (p := ⟨w.heap.size, 2, none⟩) (Nat.le_refl _) _

end Go.Proofs.YtndkhgakfodldaaGreatDoor
